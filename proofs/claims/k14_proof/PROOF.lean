import PyProof.Rows.All
import Wide.All
import OpenK.AllK
import Wide.FinOn
import Lean
import PyProof.EqAt
import PyProof.EqKinds
import PyProof.TupleCall
import PyProof.NeKinds
import PySem.Challenge.RW_seamhall_k14_common
set_option bootstrap.genMatcherCode false
set_option compiler.extract_closed false
set_option genSizeOf false
set_option genInjectivity false
set_option tactic.hygienic false
set_option Elab.async false
set_option linter.all false
set_option maxRecDepth 100000
set_option maxHeartbeats 4000000
theorem z0a (n : Nat) : (0 : Int) ≤ (n : Int) := Int.natCast_nonneg n
theorem z0b {a b c : Nat} (h : a ≤ b) (k : b ≤ c) : a ≤ c := Nat.le_trans h k
theorem z0c {a b c : Nat} (h : a ≤ b) (k : b < c) : a < c := Nat.lt_of_le_of_lt h k
theorem z0d {a b c : Nat} (h : a < b) (k : b ≤ c) : a < c := Nat.lt_of_lt_of_le h k
theorem z0e {a b : Nat} (h : a < b) : a ≤ b := Nat.le_of_lt h
theorem z0f {a b : Nat} (h : a = b) : a ≤ b := Nat.le_of_eq h
theorem z0g (a : Nat) : a ≤ a := Nat.le_refl a
theorem z0h {a b : Nat} (h : a ≤ b) (k : ¬ a = b) : a < b := Nat.lt_of_le_of_ne h k
theorem z1a {h : PySem.Heap} {a : PySem.Addr} {o' : PySem.Obj} (o : PySem.Obj) (e : h.get? a = some o') : (h.push o).get? a = some o' := PySem.Heap.get?_push_of_some o e
theorem z1b {α : Type _} {i : Nat} {a : α} {l : List α} (h : l[i]? = some a) : ∃ h : i < l.length, l[i] = a := List.getElem?_eq_some_iff.mp h
theorem z1c {α : Type _} {as : List α} : as.toArray.size = as.length := List.size_toArray
theorem z1d {α : Type _} {as bs : List α} : (as ++ bs).length = as.length + bs.length := List.length_append
theorem z1e {α : Type _} {l : List α} {i j : Nat} (h : i ≠ j) {a : α} : (l.set i a)[j]? = l[j]? := List.getElem?_set_ne h
theorem z1f (h : PySem.Heap) {o : PySem.Obj} (e : o.isFreed = false) : (h.push o).get? h.objs.size = some o := PySem.Heap.get?_push_size h e
theorem z1g {α : Type _} {β : Type _} {as : List α} (f : α → β) : (as.map f).length = as.length := List.length_map f
theorem z1h {α : Type _} {β : Type _} {f : α → β} {a : α} {l : List α} : (a :: l).map f = f a :: l.map f := rfl
theorem z2a {α : Type _} {l : List α} {i : Nat} {a : α} (h : i < l.length) : (l.set i a)[i]? = some a := List.getElem?_set_self h
theorem z2b {α : Type _} {β : Type _} {f : α → β} {l : List α} {i : Nat} : (l.map f)[i]? = Option.map f l[i]? := List.getElem?_map
theorem z2c {h : PySem.Heap} {a : PySem.Addr} {o : PySem.Obj} (e : h.get? a = some o) : a < h.objs.size := PySem.Heap.lt_size e
theorem z2d {n : Nat} : (List.range n).length = n := List.length_range
theorem z2e {m n : Nat} (h : m ∈ List.range n) : m < n := List.mem_range.mp h
theorem z2f {α : Type _} (y : α) {a : α} {l : List α} (h : a ∈ l) : a ∈ y :: l := List.mem_cons_of_mem y h
theorem bc {p:Prop} (h:¬p->False):p:=Classical.byContradiction h
theorem oq0 {x0 x1 x2:Nat} (a0:x0=x2) (a1:x2<=x1):x0<=x1:=by (subst a0;exact a1)
theorem QZ {x0 x1 x2:Nat} (a0:x2=x0) (a1:x2<=x1):x0<=x1:=by (subst a0;exact a1)
theorem oq2 {x0 x1:Nat} (a0:x0<=x1):((x0:Int) - (x1:Int))<=(0:Int):=by exact Int.sub_nonpos_of_le (Int.ofNat_le.mpr a0)
theorem oq3 {x0 x1:Int} (a0:x1 < x0):((((Int.toNat (x0 - x1)):Nat):Int) - ((0:Nat):Int))=(x0 - x1):=by exact Int.toNat_of_nonneg (Int.sub_nonneg_of_le (Int.le_of_lt a0))
theorem oq4 {x0 x1:Int} (a0:¬(x1 < x0)):((((Int.toNat (x0 - x1)):Nat):Int) - ((0:Nat):Int))=(0:Int):=by (rw[Int.toNat_of_nonpos (Int.sub_nonpos_of_le (Int.not_lt.mp a0))];rfl)
theorem oq5 {x0:Int} (a0:(0:Int) < x0):x0≠(0:Int):=by exact Int.ne_of_gt a0
theorem oq6 {x0 x1:Nat} (a0:x0<=x1) (a1:x1=16777216):x0<=1099511627776:=by (subst a1;exact z0b a0 (by decide))
theorem oq7 {x0 x1 x2 x3:Nat} (a0:((x0+(16*x3))+200) < x2) (a1:x1<=x3):((x0+(16*x1))+200) < x2:=by exact z0c (Nat.add_le_add_right (Nat.add_le_add_left (Nat.mul_le_mul_left 16 a1) _) 200) a0
theorem oq8 {x0 x1 x2 x3:Nat} (a0:((x0+(3*x3))+5) < x2) (a1:x1<=x3):((x0+(3*x1))+5) < x2:=by exact z0c (Nat.add_le_add_right (Nat.add_le_add_left (Nat.mul_le_mul_left 3 a1) _) 5) a0
theorem oq9 {x0 x1 x2:Nat} (a0:((x0+(16*(x1+1)))+200) < x2):(((x0+3)+(16*x1))+200) < x2:=by exact z0c (Nat.add_le_add_right (by rw[Nat.mul_succ,Nat.add_assoc,Nat.add_comm 3];exact Nat.add_le_add_left (Nat.add_le_add_left (by decide) _) _) 200) a0
theorem alU {x0 x1 x2:Nat} (a0:((x0+(3*(x1+1)))+5) < x2):(((x0+1)+(3*x1))+5) < x2:=by exact z0c (Nat.add_le_add_right (by rw[Nat.mul_succ,Nat.add_assoc,Nat.add_comm 1];exact Nat.add_le_add_left (Nat.add_le_add_left (by decide) _) _) 5) a0
theorem alV {x0 x1 x2:Nat} (a0:((x0+(3*x2))+5) < x1):x0 < x1:=by exact z0c (z0b (Nat.le_add_right _ _) (Nat.le_add_right _ _)) a0
theorem alW {x0 x1:Nat} (a0:(min x0 x1)=x0):x0<=x1:=by exact z0b (z0f a0.symm) (Nat.min_le_right _ _)
theorem ain {x0 x1 x2:Nat} (a0:x0 < x2) (a1:x2=x1):x0 < x1:=by exact a1▸a0
theorem alX {x0 x1 x2:Nat} (a0:x0=x2) (a1:x2<=x1):(x0+(x1 - x0))=x1:=by (subst a0;exact Nat.add_sub_cancel' a1)
theorem alY {x1:Nat} {x0:Int} (a0:x0 < (0:Int)):(Int.toNat (x0+(x1:Int)))<=x1:=by exact Int.toNat_le.mpr (Int.le_trans (Int.add_le_add_right (Int.le_of_lt a0) _) (Int.le_of_eq (Int.zero_add _)))
theorem alZ {x1:Nat} {x0:Int} (a0:x0 < (0:Int)):(x0+(x1:Int))<=(x1:Int):=by exact Int.le_trans (Int.add_le_add_right (Int.le_of_lt a0) _) (Int.le_of_eq (Int.zero_add _))
theorem al0:¬((1:Int) < (0:Int)):=by decide
theorem al1 {x0 x1:Nat}:(Int.toNat ((((x0:Int) - (x1:Int)) - (1:Int))+(1:Int)))=(x0 - x1):=by (rw[Int.sub_add_cancel];exact Int.toNat_sub _ _)
theorem al2 {x0 x1:Nat} (a0:¬((x1:Int) < (x0:Int))):(Int.toNat (0:Int))=(x0 - x1):=by exact (Nat.sub_eq_zero_of_le (Int.ofNat_le.mp (Int.not_lt.mp a0))).symm
theorem al3 {x0 x1:Nat}:(Int.toNat ((x0:Int)+((x1:Int)*(1:Int))))=(x0+x1):=by (rw[Int.mul_one];exact Int.toNat_natCast _)
theorem al4 {x0 x1 x2 x3:Nat} (a0:x2<=x3):(min (x0 - x1) (x2 - x1))<=x3:=by exact z0b (Nat.min_le_right _ _) (z0b (Nat.sub_le _ _) a0)
theorem al5 {x0 x1 x2:Nat} (a0:(x0 - x2)=x1) (a1:x0<=x1):x0=x1:=by (subst a0;exact Nat.le_antisymm a1 (Nat.sub_le _ _))
theorem al6 {x0:Nat} (a0:(x0:Int)=(0:Int)):x0=(0:Nat):=by exact Int.ofNat.inj a0
theorem al7 {x0 x1 x2:Nat}:(min (x0 - x1) (x2 - x1))<=x2:=by exact z0b (Nat.min_le_right _ _) (Nat.sub_le _ _)
theorem al8 {x0:Nat} {x1:Int} (a0:(0:Int)<=x1):(-(x0:Int))<=x1:=by exact Int.le_trans (Int.neg_nonpos_of_nonneg (z0a _)) a0
theorem al9 {x0 x1:Nat} {x2:Int} (a0:(0:Int)<=x2) (a1:(Int.toNat x2)=x0) (a2:x2 < (x1:Int)):x0 < x1:=by (subst a1;exact (Int.toNat_lt a0).mpr a2)
theorem ama {x1:Nat} {x0:Int} (a0:¬((0:Int)<=x0)):x0 < (x1:Int):=by exact Int.lt_of_lt_of_le (Int.not_le.mp a0) (z0a _)
theorem amb {x0 x1:Nat} {x2:Int} (a0:(-(x1:Int))<=x2) (a1:(Int.toNat (x2+(x1:Int)))=x0) (a2:¬((0:Int)<=x2)):x0 < x1:=by (subst a1;have h:=Int.add_le_add_right a0 x1;rw[Int.add_left_neg] at h;refine (Int.toNat_lt h).mpr ?_;have q:=Int.add_lt_add_right (Int.not_le.mp a2) x1;rw[Int.zero_add] at q;exact q)
theorem amc {x0 x2:Nat} {x1:Int} (a0:(-(x2:Int))<=x1) (a1:x2=x0):(-(x0:Int))<=x1:=by exact a1▸a0
theorem amd {x0 x1 x2:Nat} (a0:x2 < x1) (a1:x2=x0):x0<=x1:=by exact z0e (a1▸a0)
theorem ame {x0:Int} (a0:(0:Int) < x0):(Int.natAbs x0)≠(0:Nat):=by exact λ h=>Int.ne_of_gt a0 (Int.natAbs_eq_zero.mp h)
theorem amf {x0:Nat} (a0:x0 < 64):x0 < 9000:=by exact ((λ h=>z0d h (Nat.le_add_left _ _)) a0)
theorem amg {x0 x1:Int} (a0:((0:Int) < x0)/\(x0 < x1)):x0≠(0:Int):=by exact Int.ne_of_gt (And.left a0)
theorem amh {x0 x1:Nat} (a0:¬(x0 < x1)):x0=(x1+(x0 - x1)):=by exact (Nat.add_sub_cancel' (Nat.not_lt.mp a0)).symm
theorem aio {x0 x1:Nat}:((x0+x1) - x0)=x1:=by exact Nat.add_sub_cancel_left _ _
theorem ami {x0 x1 x2:Nat} (a0:x0 < x2) (a1:x2<=x1):x0≠x1:=by exact Nat.ne_of_lt (z0d a0 a1)
theorem aip {x0 x1:Nat} (a0:x1=(x0+1)):x0<=x1:=by exact a0▸Nat.le_succ _
theorem aiq {x0 x1 x2:Nat} (a0:(x0+1)<=x1) (a1:x0=(x2+1)) (a2:x1 < x2):False:=by (subst a1;exact absurd (z0c a0 a2) (Nat.not_lt.mpr (Nat.le_add_right _ 2)))
theorem air {x0 x1 x2:Nat} (a0:(x2+1)<=x1) (a1:x2=(x0+1)):x0<=x1:=by (subst a1;exact z0b (Nat.le_add_right _ 2) a0)
theorem ais {x0 x1 x2:Nat} (a0:x0 < x2) (a1:x1=(x2+1)):x0≠x1:=by (subst a1;exact Nat.ne_of_lt (Nat.lt_succ_of_lt a0))
theorem ait {x0 x1 x2 x3:Nat} (a0:(x2+1)<=x0) (a1:x1 < x3) (a2:x2=(x3+1)):x0≠x1:=by (subst a2;exact Nat.ne_of_gt (z0d a1 (z0b (Nat.le_add_right _ 2) a0)))
theorem amj {x0 x1:Nat} (a0:x0=(x1+1)):x0≠x1:=by (subst a0;exact Nat.succ_ne_self _)
theorem amk {x0 x1 x2:Nat} (a0:(x2+1)<=x0) (a1:x2=(x1+1)):x0≠x1:=by (subst a1;exact Nat.ne_of_gt (z0d (Nat.lt_succ_of_lt (Nat.lt_succ_self _)) a0))
theorem aml {x0 x1:Nat} (a0:x1 < x0):(x0 - (x1+1)) < (x0 - x1):=by exact Nat.sub_lt_sub_left a0 (Nat.lt_succ_self _)
theorem ae2 {x0 x1:Nat} (a0:x0<=x1) (a1:¬(x0 < x1)):x0=x1:=by exact Nat.le_antisymm a0 (Nat.not_lt.mp a1)
theorem aiu {x0 x1 x2:Nat} (a0:1000000 < x1) (a1:x2 < 1000000) (a2:x2=x0):x0 < x1:=by exact Nat.lt_trans (a2▸a1) a0
theorem amm {x0 x1 x2 x3:Nat} (a0:x0=(x3+x2)) (a1:x1=x3):(x0 - x1)=x2:=by (subst a0 a1;exact Nat.add_sub_cancel_left _ _)
theorem aiv {x0 x1 x2 x3:Nat} (a0:x0=x3) (a1:x2=(x3+x1)):(x0+x1)=x2:=by (rw[a0,a1])
theorem Ue {x0 x1 x2:Nat} (a0:x0 < x2) (a1:x1=x2):x0 < x1:=by (subst a1;exact a0)
theorem aiw {x0:Nat} (a0:(x0+1)<=0):False:=by exact Nat.not_succ_le_zero _ a0
theorem amn {x0 x1 x2:Nat} (a0:(x0+(x2+1)) < x1):x0 < x1:=by exact z0c (Nat.le_add_right _ _) a0
theorem aix {x0 x1 x2:Nat} (a0:(x2+1)<=(x1+1)) (a1:x0<=x2):x0<=x1:=by exact z0b a1 (Nat.le_of_lt_succ a0)
theorem amo {x0 x1 x2:Nat} (a0:(x0+(x1+1)) < x2):((x0+1)+x1) < x2:=by exact z0c (z0f (Nat.succ_add _ _)) a0
theorem aiy {x0 x1:Nat} (a0:(x0+60) < x1):x0 < x1:=by exact z0c (Nat.le_add_right _ _) a0
theorem aay {x0 x1:Nat} (a0:(x1+1)<=40) (a1:x0<=x1):x0<=40:=by exact z0b a1 (Nat.le_of_succ_le a0)
theorem aiz {x0 x1:Nat} (a0:(x0+60) < x1):((x0+1)+40) < x1:=by exact z0c (Nat.add_le_add_left (by decide:41<=60) x0) a0
theorem aiA {x0 x1:Nat} (a0:x0 < 1) (a1:x1 < x0):False:=by exact Nat.not_lt_zero _ (z0d a1 (Nat.le_of_lt_succ a0))
theorem ae3 {x0 x1:Nat} (a0:x0 < (x1+1)) (a1:¬(x0 < x1)):x0=x1:=by exact Nat.le_antisymm (Nat.le_of_lt_succ a0) (Nat.not_lt.mp a1)
theorem aiB {x0 x1:Nat} (a0:x1 < x0):(x0 - 1) < x0:=by exact Nat.sub_lt (Nat.zero_lt_of_lt a0) Nat.zero_lt_one
theorem aiC {x0 x1:Nat} (a0:x0 < x1) (a1:¬(x0=(x1 - 1))):x0 < (x1 - 1):=by exact z0h (Nat.le_sub_one_of_lt a0) a1
theorem Ug {x0 x1:Nat} (a0:x0 < x1):(x0 - 1) < x1:=by exact z0c (Nat.sub_le _ _) a0
theorem Jo {x0 x1 x2:Nat} (a0:(x0+(x2+1))<=x1):(x0 - 1) < x1:=by exact z0c (Nat.sub_le _ _) (z0d (Nat.lt_add_of_pos_right (Nat.succ_pos _)) a0)
theorem vY {x0 x1 x2:Nat} (a0:(x0+(x2+1))<=x1):x0 < x1:=by exact z0d (Nat.lt_add_of_pos_right (Nat.succ_pos _)) a0
theorem aiD {x0:Nat} (a0:1<=x0):x0≠(x0 - 1):=by exact Nat.ne_of_gt (Nat.sub_lt a0 Nat.zero_lt_one)
theorem ae4 {x0 x1 x2:Nat} (a0:(x0+(x1+1))<=x2):((x0+1)+x1)<=x2:=by exact z0b (z0f (Nat.succ_add _ _)) a0
theorem aiE {x0 x1 x2:Nat} (a0:x0 < (x1+(x2+1))):x0 < ((x1+1)+x2):=by exact z0d a0 (z0f (Nat.succ_add _ _).symm)
theorem ae5 {x0 x1 x2:Nat} (a0:x0<=((x1+1)+x2)):x0<=(x1+(x2+1)):=by exact z0b a0 (z0f (Nat.succ_add _ _))
theorem amq {x0 x1:Nat}:(((0+x0) - 1) - x1)=((x0 - 1) - x1):=by simp
theorem amr {x0 x1:Nat} (a0:1<=x0):((x0 - 1) - x1) < x0:=by exact z0c (Nat.sub_le _ _) (Nat.sub_lt a0 Nat.zero_lt_one)
theorem ams {x0 x1 x2:Nat} (a0:x1 < x0) (a1:x2 < x1):((x0 - 1) - x1) < ((x0 - 1) - x2):=by exact Nat.sub_lt_sub_left (z0d a1 (Nat.le_sub_one_of_lt a0)) a1
theorem aiF {x0 x1:Nat} (a0:x0<=x1):(x0+(x1 - x0))<=x1:=by exact z0f (Nat.add_sub_cancel' a0)
theorem amt {x0 x1 x2:Nat} (a0:x0<=(x2+(x1 - x2))) (a1:x2<=x1):x0<=x1:=by simp_all
theorem amu {x0:Nat} (a0:1<=x0):(1+(x0 - 1))<=x0:=by exact z0f (Nat.add_sub_cancel' a0)
theorem amv {x0 x1:Nat} (a0:1<=x1) (a1:x0<=(1+(x1 - 1))):(x0 - 1) < x1:=by exact z0d (z0c (Nat.sub_le_sub_right a1 1) (by rw[Nat.add_sub_cancel_left];exact Nat.sub_lt a0 Nat.zero_lt_one)) (z0g _)
theorem aiG {x0:Nat} (a0:1<=x0):(x0 - 1) < x0:=by exact Nat.sub_lt a0 Nat.zero_lt_one
theorem amw {x0:Nat} (a0:x0 > 1):0 < (x0 - 1):=by exact Nat.sub_pos_of_lt a0
theorem amx {x0 x1:Nat} (a0:1<=x1) (a1:x0<=(1+(x1 - 1))):x0<=x1:=by exact z0b a1 (z0f (Nat.add_sub_cancel' a0))
theorem amy {x0:Nat} (a0:1<=x0) (a1:¬(x0 > 1)):x0=1:=by exact Nat.le_antisymm (Nat.not_lt.mp a1) a0
theorem amA {x0:Nat} (a0:1<=x0) (a1:¬(1=x0)):1 < (1+(x0 - 1)):=by (rw[Nat.add_sub_cancel' a0];exact z0h a0 a1)
theorem amB {x0:Nat} (a0:1<=x0) (a1:¬(1=x0)):((1+1)+(x0 - (1+1)))<=x0:=by (rw[Nat.add_sub_cancel' (z0h a0 a1)];exact z0g _)
theorem amC {x0:Nat} (a0:x0=0):¬(x0 > 0):=by exact Nat.not_lt.mpr (z0f a0)
theorem amD {x0 x1:Nat} (a0:1<=x1) (a1:x0<=((1+1)+(x1 - (1+1)))) (a2:¬(1=x1)):x0<=x1:=by exact z0b a1 (z0f (Nat.add_sub_cancel' (z0h a0 a2)))
theorem amE {x0 x1 x2:Nat} (a0:(x0 - x2)<=0) (a1:x2<=x1):x0<=x1:=by exact z0b (Nat.le_of_sub_eq_zero (Nat.le_zero.mp a0)) a1
theorem amF {x0 x1 x2:Nat} (a0:x1<=x2) (a1:¬(x0>=x1)):((x0+x1) / 2) < x2:=by exact z0d (Nat.div_lt_of_lt_mul (by rw[Nat.two_mul];exact Nat.add_lt_add_right (Nat.not_le.mp a1) _)) a0
theorem amG {x0 x1 x2:Nat} (a0:(x1 - x0)<=(x2+1)):(((x0+x1) / 2) - x0)<=x2:=by exact Nat.sub_le_of_le_add (Nat.le_of_lt_succ (Nat.div_lt_of_lt_mul (by rw[Nat.two_mul,Nat.succ_eq_add_one];exact z0c (Nat.add_le_add_left (Nat.sub_le_iff_le_add.mp a0) x0) (by rw[Nat.add_right_comm x2];exact Nat.add_lt_add_right (Nat.lt_succ_of_le (Nat.le_add_left _ _)) _))))
theorem ae6 {x0 x1:Nat} (a0:x0<=x1):x0<=((x0+x1) / 2):=by exact (Nat.le_div_iff_mul_le (by decide)).mpr (by rw[Nat.mul_two];exact Nat.add_le_add_left a0 _)
theorem amH {x0 x1 x2:Nat} (a0:((x0+x1) / 2)<=x2) (a1:¬(x2=((x0+x1) / 2))):((x0+x1) / 2) < x2:=by exact z0h a0 λ h=>a1 h.symm
theorem amI {x0 x1 x2:Nat} (a0:x0 < x2) (a1:x2 < x1):x0 < x1:=by exact Nat.lt_trans a0 a1
theorem aiH {x0 x1 x2 x3:Nat} (a0:x0<=x1) (a1:x1<=x3) (a2:x3 < x2):((x0+x1) / 2) < x2:=by exact z0c (z0b (Nat.div_le_of_le_mul (by rw[Nat.two_mul];exact Nat.add_le_add_right a0 _)) a1) a2
theorem amJ {x0 x1 x2:Nat} (a0:(x0 - x1)<=(x2+1)):(x0 - (((x1+x0) / 2)+1))<=x2:=by exact (Nat.le_total x1 x0).elim (λ h=>z0b (Nat.sub_le_sub_left (Nat.succ_le_succ (ae6 h)) x0) (Nat.sub_le_of_le_add a0:x0 - x1 - 1<=x2)) λ h=>z0b (z0f (Nat.sub_eq_zero_of_le (Nat.le_succ_of_le (Nat.add_comm x0 x1▸ae6 h)))) (Nat.zero_le _)
theorem amK {x0 x1:Nat} (a0:¬(x0>=x1)):(((x0+x1) / 2)+1)<=x1:=by exact Nat.div_lt_of_lt_mul (by rw[Nat.two_mul];exact Nat.add_lt_add_right (Nat.not_le.mp a0) _)
theorem amL {x0 x1 x2:Nat} (a0:x0 < (((x1+x2) / 2)+1)) (a1:¬(x0=((x1+x2) / 2))):x0 < ((x1+x2) / 2):=by exact z0h (Nat.le_of_lt_succ a0) a1
theorem amM {x0 x1 x2 x3 x4:Nat} (a0:x0 < (((x2+x3) / 2)+1)) (a1:x2<=x3) (a2:x3<=x4) (a3:x4 < x1):x0 < x1:=by exact z0c (z0b (z0b (Nat.le_of_lt_succ a0) (Nat.div_le_of_le_mul (by rw[Nat.two_mul];exact Nat.add_le_add_right a1 _))) a2) a3
theorem amN {x0 x1:Nat} (a0:x0 < x1) (a1:x1<=x0):False:=by exact absurd a0 (Nat.not_lt.mpr a1)
theorem amO {x0:Nat} (a0:x0 < 0):False:=by exact Nat.not_lt_zero _ a0
theorem amP {x0 x1:Nat} (a0:x1<=x0):(x0 - (x0 - x1))=x1:=by exact Nat.sub_sub_self a0
theorem amQ {x0 x1 x2:Nat} (a0:x2 < x1) (a1:x2=x0):x0 < x1:=by (subst a1;exact a0)
theorem amR {x0 x1 x2:Nat} (a0:x2 < x0) (a1:x2=x1):¬(x0=x1):=by exact Nat.ne_of_gt (a1▸a0)
theorem ae7 {x0 x1 x2:Nat} (a0:x0 < (x1+1)) (a1:x2 < x0):(x0 - 1) < x1:=by exact z0d (Nat.sub_lt (Nat.zero_lt_of_lt a1) Nat.zero_lt_one) (Nat.le_of_lt_succ a0)
theorem ajS {x0 x1 x2:Nat} (a0:x2 < x1) (a1:x2=x0):x0<=(x1 - 1):=by exact Nat.le_sub_one_of_lt (a1▸a0)
theorem ajT {x0 x1 x2 x3:Nat} (a0:(x0 < x2)/\(x2<=x3)) (a1:x2 < x1):x0 < x1:=by exact Nat.lt_trans a0.1 a1
theorem ajU {x0 x1 x2 x3:Nat} (a0:(x1 < x2)/\(x2<=x3)) (a1:x2 < x0):¬(x0=x1):=by exact Nat.ne_of_gt (Nat.lt_trans a0.1 a1)
theorem ajV {x0 x1 x2 x3:Nat} (a0:(x2 < x0)/\(x0<=x3)) (a1:x0 < x1):(x0 - 1) < (x1 - 1):=by exact Nat.sub_lt_sub_right (Nat.zero_lt_of_lt a0.1) a1
theorem ajW {x0 x1 x2 x3:Nat} (a0:x0 < x2) (a1:x2 < (x3+1)) (a2:¬((x1 < x0)/\(x0<=x3))) (a3:¬(x0=x1)):x0 < x1:=by exact z0h (Nat.not_lt.mp λ h=>a2 ⟨h,Nat.le_of_lt_succ (Nat.lt_trans a0 a1)⟩) a3
theorem ajX {x0 x1 x2 x3:Nat} (a0:(x0 < x1)/\(x1<=x2)) (a1:x3=(x1 - 1)) (a2:¬((x0 < x3)/\(x3<=x2))) (a3:¬(x3=x0)):False:=by (subst a1;exact a2 ⟨z0h (Nat.le_sub_one_of_lt a0.1) (Ne.symm a3),z0b (Nat.sub_le _ _) a0.2⟩)
theorem ajY {x0 x1 x2 x3:Nat} (a0:(x2 < x1)/\(x1<=x3)) (a1:x0 < x1) (a2:¬((x2 < x0)/\(x0<=x3))) (a3:¬(x0=x2)):x0 < (x1 - 1):=by exact z0h (Nat.le_sub_one_of_lt a1) λ h=>by subst h;exact a2 ⟨z0h (Nat.le_sub_one_of_lt a0.1) (Ne.symm a3),z0b (Nat.sub_le _ _) a0.2⟩
theorem ajZ {x0 x1 x2:Nat} (a0:x0 < (x1+1)) (a1:x2<=x1) (a2:¬((x2 < x0)/\(x0<=x1))) (a3:¬(x0=x2)):x0 < x1:=by exact z0h (Nat.le_of_lt_succ a0) λ h=>a3 (Nat.le_antisymm (Nat.not_lt.mp λ q=>a2 ⟨q,Nat.le_of_lt_succ a0⟩) (h▸a1))
theorem aj0 {x0 x1:Nat}:(x0+(x1+1))=((x0+1)+x1):=by exact (Nat.succ_add _ _).symm
theorem aj1 {x0:Nat} (a0:1<=x0):(max x0 1)=x0:=by exact Nat.max_eq_left a0
theorem aj2 {x0 x1:Nat} (a0:x0<=x1):(x0+(x1 - x0))=x1:=by exact Nat.add_sub_cancel' a0
theorem T4 {x0:Nat} (a0:x0 < 64):x0<=16777216:=by exact z0b (z0e a0) (by decide)
theorem agq {x0:Nat} (a0:x0 < 64):x0<=(16777216+1):=by exact (λ h=>z0b h (Nat.le_add_left _ _)) (z0e a0)
theorem aj3 {x0 x1 x2 x3:Nat} (a0:x0 < 2) (a1:x0=x1) (a2:x2 < x1) (a3:x3 < x2):False:=by (subst a1;exact Nat.not_lt_zero _ (z0d a3 (Nat.le_of_lt_succ (z0d a2 (Nat.le_of_lt_succ a0)))))
theorem aj4 {x0 x1 x2:Nat} (a0:((x0+(16*x2))+200) < x1):(x0+60) < x1:=by exact z0c (Nat.add_le_add (Nat.le_add_right _ _) (by decide)) a0
theorem aj5 {x0 x1 x2:Nat} (a0:x0<=x2) (a1:x1<=x2):(max x0 x1)<=x2:=by exact Nat.max_le.mpr ⟨a0,a1⟩
theorem aj6:(2147483563:Int)≠(0:Int):=by decide
theorem aj7:(2147483399:Int)≠(0:Int):=by decide
theorem aj8 {x0:Int} (a0:(0:Int)<=x0) (a1:x0 < ((0:Nat):Int)):False:=by exact absurd a1 (Int.not_lt.mpr a0)
theorem aj9 {x1:Nat} {x0:Int} (a0:x0 < (((x1+(1:Nat)):Nat):Int)):(x0 - (1:Int)) < (x1:Int):=by exact Int.sub_right_lt_of_lt_add a0
theorem akb {x0:Int} (a0:(0:Int) < x0):(0:Int)<=(x0 - (1:Int)):=by exact (Int.sub_nonneg_of_le a0)
theorem akc {x0:Int} (a0:x0 < (60:Int)):x0 < ((64:Nat):Int):=by exact Int.lt_trans a0 (by decide)
theorem akd {x0:Nat} (a0:x0<=0):(x0+1)<=40:=by exact z0b (Nat.succ_le_succ a0) (by decide)
theorem ake {x0:Nat}:(0:Int) < (((x0+(1:Nat)):Nat):Int):=by exact Int.ofNat_lt.mpr (Nat.succ_pos _)
theorem akf {x0 x1:Nat} (a0:(x0:Int) > (x1:Int)) (a1:x0<=x1):False:=by exact Nat.not_lt.mpr a1 (Int.ofNat_lt.mp a0)
theorem agr {x0 x1:Nat} (a0:¬(x1<=x0)):x0 < x1:=by exact Nat.not_le.mp a0
theorem akg {x0 x1 x2 x3:Nat} (a0:(x2<=x1)\/(x3<=x1)) (a1:x3=x0) (a2:¬(x2<=x1)):x0<=x1:=by exact a1▸a0.resolve_left a2
theorem akh {x0 x1 x2:Nat} (a0:(min x0 x2)<=x1):(x0<=x1)\/(x2<=x1):=by exact (Nat.le_total x0 x2).elim (λ h=> .inl (Nat.min_eq_left h▸a0)) (λ h=> .inr (Nat.min_eq_right h▸a0))
theorem aki {x0:Nat}:(x0+1)≠x0:=by exact Nat.succ_ne_self _
theorem akj {x0 x1:Nat} (a0:x0 < x1):(x0+1)<=x1:=by exact a0
theorem akk {x0 x1:Nat} (a0:x1<=x0):((x0+1) - (x1+1)) < ((x0+1) - x1):=by exact Nat.sub_lt_sub_left (Nat.lt_succ_of_le a0) (Nat.lt_succ_self _)
theorem akl {x0 x1 x2 x3 x4:Nat} (a0:1000000 < x1) (a1:(x2+(x3+1))=x4) (a2:x2=x0) (a3:x4<=1000000):x0 < x1:=by (subst a2;exact z0c (z0b (z0b (Nat.le_add_right _ _) (z0f a1)) a3) a0)
theorem akm {x0 x1 x2:Nat} (a0:x0=x2) (a1:x1=(x2+1)):x0<=x1:=by (subst a0 a1;exact Nat.le_succ _)
theorem akn {x0 x1 x2:Nat} (a0:x0=(x1+x2)):(x0 - x1)=x2:=by (subst a0;exact Nat.add_sub_cancel_left _ _)
theorem ako {x0 x1:Nat} (a0:(min (x0+1) x1)=(x0+1)):(x0+1)<=x1:=by exact z0b (z0f a0.symm) (Nat.min_le_right _ _)
theorem akp {x0 x1 x2:Nat} (a0:x0 < (x2+1)) (a1:x2=x1):x0 < (x1+1):=by (subst a1;exact a0)
theorem akq {x0 x1 x2:Nat} (a0:(x2+1)<=x1) (a1:x0=x2):((x0+1)+(x1 - (x0+1)))=x1:=by (subst a1;exact Nat.add_sub_cancel' a0)
theorem akr {x0 x1 x2 x3 x4:Nat} (a0:1000000 < x2) (a1:(x3+x4)<=1000000) (a2:x3=x0) (a3:x4=x1):(x0+x1)<=(x2+1):=by (subst a2 a3;exact z0b a1 (z0b (z0e a0) (Nat.le_succ _)))
theorem aks {x0 x1 x2 x3 x4:Nat} (a0:1000000 < x2) (a1:(x3+x4)<=1000000) (a2:x3=x0) (a3:x4=x1):¬((x0+x1) > x2):=by (subst a2 a3;exact Nat.not_lt.mpr (z0b a1 (z0e a0)))
theorem akt {x0 x1 x2:Nat} (a0:1000000 < x2) (a1:(x0+x1)<=1000000):(x0+x1)<=x2:=by exact z0b a1 (z0e a0)
theorem aku {x0:Int}:(x0 - (0:Int))=x0:=by exact Int.sub_zero _
theorem akv {x0:Int} (a0:(0:Int)<=x0) (a1:¬((0:Int) < x0)):(0:Int)=x0:=by exact Int.le_antisymm a0 (Int.not_lt.mp a1)
theorem akx {x0:Int}:((0:Int)+((x0 - (1:Int))*(1:Int)))=(x0 - (1:Int)):=by simp
theorem aky {x0:Int} (a0:(0:Int)<=x0):((((Int.toNat x0):Nat):Int) - ((0:Nat):Int))=x0:=by exact Int.toNat_of_nonneg a0
theorem akz {x0 x1 x2:Int} (a0:x0 < x2) (a1:x2 < x1):x0 < x1:=by exact Int.lt_trans a0 a1
theorem akA {x0 x1 x2:Int} (a0:x0 < x2) (a1:x2 < x1):¬(x0=x1):=by exact Int.ne_of_lt (Int.lt_trans a0 a1)
theorem akB {x0 x1:Int} (a0:¬(x1 < x0)) (a1:¬(x1=x0)):x0 < x1:=by exact Int.lt_iff_le_and_ne.mpr ⟨Int.not_lt.mp a0,λ h=>a1 h.symm⟩
theorem akC {x0 x1 x2:Nat} (a0:((x0+(16*x2))+200) < x1):(x0+2) < x1:=by exact z0c (Nat.add_le_add (Nat.le_add_right _ _) (by decide)) a0
theorem akD {x0 x1:Int} (a0:x1 < x0):(x0 - x1)=(((Int.toNat (x0 - x1)):Nat):Int):=by exact (Int.toNat_of_nonneg (Int.sub_nonneg_of_le (Int.le_of_lt a0))).symm
theorem akE {x0 x1:Int} (a0:¬(x1 < x0)):(0:Int)=(((Int.toNat (x0 - x1)):Nat):Int):=by (rw[Int.toNat_of_nonpos (Int.sub_nonpos_of_le (Int.not_lt.mp a0))];rfl)
theorem akF {x0 x1:Int} (a0:(-(1000:Int))<=x1) (a1:x0<=(1000:Int)):(Int.toNat (x0 - x1))<=(1000000:Nat):=by exact Int.toNat_le.mpr (Int.le_trans (Int.sub_le_sub a1 a0) (by decide))
theorem mR {x0:Nat} (a0:x0<=20):x0<=1000000:=by exact z0b a0 (by decide)
theorem akG {x0 x1:Nat} (a0:(x0+(x1+1))<=1000000):((x0+(0+1))+x1)<=1000000:=by exact z0b (z0f (Nat.succ_add _ _)) a0
theorem akH {x0:Nat} (a0:x0<=20):(0+x0)<=1000000:=by exact z0b (z0f (Nat.zero_add _)) (z0b a0 (by decide))
theorem ags {x0:Nat}:(0:Int)<=(x0:Int):=by exact z0a _
theorem akI {x2:Nat} {x0 x1:Int} (a0:(0:Int)<=x0) (a1:(0:Int)<=x1):(0:Int)<=(((x0+(1:Int))+x1)+(x2:Int)):=by exact Int.add_nonneg (Int.add_nonneg (Int.add_nonneg a0 (by decide)) a1) (z0a _)
theorem akJ {x0 x1:Int} (a0:((0:Int)<=x0)/\(x0 < x1)) (a1:x1<=(100:Int)):((0:Int)<=x0)/\(x0<=(99:Int)):=by exact⟨a0.1,Int.le_of_lt_add_one (Int.lt_of_lt_of_le a0.2 a1)⟩
theorem akK {x0:Nat}:¬((x0:Int) < (0:Int)):=by exact Int.not_lt.mpr (z0a _)
theorem akL {x0:Nat} (a0:(1:Nat)<=x0):((x0:Int) - (1:Int))=(((x0 - (1:Nat)):Nat):Int):=by exact (Int.ofNat_sub a0).symm
theorem akM {x0:Nat} (a0:(0:Int) > ((x0:Int) - (1:Int))):(0:Int)=(((x0 - (1:Nat)):Nat):Int):=by (rw[Nat.sub_eq_zero_of_le (Nat.le_of_lt_succ (Int.ofNat_lt.mp (Int.lt_of_sub_neg a0 |> λ h=>Int.lt_trans h (by decide))))];rfl)
theorem akN {x0:Nat} (a0:¬((0:Int) > ((x0:Int) - (1:Int)))):((x0:Int) - (1:Int))=(((x0 - (1:Nat)):Nat):Int):=by exact (Int.ofNat_sub (Int.ofNat_le.mp (Int.le_of_sub_nonneg (Int.not_lt.mp a0)))).symm
theorem akO {x0 x1:Nat} (a0:(x0:Int) < (((x1+(1:Nat)):Nat):Int)):(x0:Int)=(((min (x1+(1:Nat)) x0):Nat):Int):=by (rw[Nat.min_eq_right (z0e (Int.ofNat_lt.mp a0))])
theorem akP {x0 x1:Nat} (a0:¬((x1:Int) < (((x0+(1:Nat)):Nat):Int))):(((x0+(1:Nat)):Nat):Int)=(((min (x0+(1:Nat)) x1):Nat):Int):=by (rw[Nat.min_eq_left (Int.ofNat_le.mp (Int.not_lt.mp a0))])
theorem agt {x0 x1:Nat} (a0:1<=x1):(min (x0+1) (x1 - 1)) < x1:=by exact z0c (Nat.min_le_right _ _) (Nat.sub_lt a0 Nat.zero_lt_one)
theorem akQ {x0 x1:Nat} (a0:(x0+(x1+1))<=1000):x0 < 1000000:=by exact z0c (z0b (Nat.le_add_right _ _) a0) (by decide)
theorem agu {x0 x1:Nat} (a0:(x0+(x1+1))<=1000):((x0+1)+x1)<=1000:=by exact z0b (z0f (Nat.succ_add _ _)) a0
theorem akR {x0:Nat} (a0:x0<=20):(0+x0)<=1000:=by (rw[Nat.zero_add];exact z0b a0 (by decide))
theorem akS {x0 x1:Nat} (a0:x1<=(x0+(1:Nat))):(((x0:Int) - (x1:Int))+(1:Int))=((((x0+(1:Nat)) - x1):Nat):Int):=by (rw[Int.ofNat_sub a0,Int.natCast_add,Int.sub_eq_add_neg,Int.sub_eq_add_neg,Int.add_right_comm];rfl)
theorem akT {x0 x1:Nat} (a0:x0<=(x1+1)):(((x0+1) - x1)=0)\/((((x0+1) - x1)=1)\/(((x0+1) - x1)=2)):=by (have h:(x0+1) - x1<=2:=Nat.sub_le_iff_le_add.mpr (by rw[Nat.add_comm 2];exact Nat.succ_le_succ a0);revert h;generalize (x0+1) - x1=n;intro h;rcases n with _ |_ |_ |n;exact .inl rfl;exact .inr (.inl rfl);exact .inr (.inr rfl);exact absurd h (Nat.not_le.mpr (Nat.le_add_left 3 n)))
theorem akU {x0 x1:Nat}:((min (x0+2) x1) - (x0 - 1))<=3:=by exact z0b (Nat.sub_le_sub_right (Nat.min_le_left _ _) _) (Nat.sub_le_of_le_add (by rw[Nat.add_comm 3];exact Nat.succ_le_succ (Nat.succ_le_succ (Nat.le_succ_of_pred_le (z0g _)))))
theorem agv {x0 x1:Nat} (a0:x0<=1000) (a1:x1<=1):(x0+x1)<=1000000:=by exact z0b (Nat.add_le_add a0 a1) (by decide)
theorem T5 {x0:Nat} (a0:x0<=1):x0<=1000000:=by exact z0b a0 (by decide)
theorem agw {x0 x1 x2:Nat} (a0:(x0+(x2+1))<=1000) (a1:x1<=1):((x0+x1)+x2)<=1000:=by exact z0b (by rw[Nat.add_assoc,Nat.add_comm x1];exact Nat.add_le_add_left (Nat.add_le_add_left a1 _) _) a0
theorem aaz {x0 x1:Nat} (a0:(x0+(x1+1))<=1000):x0<=1000:=by exact z0b (Nat.le_add_right _ _) a0
theorem akV {x0:Nat} (a0:x0<=3):x0<=1000:=by exact ((λ h=>z0b h (Nat.le_add_left _ _)) a0)
theorem akW {x0:Nat} (a0:x0<=100):(1+x0)<=1000000:=by exact z0b (Nat.add_le_add_left a0 1) (by decide)
theorem akX {x0:Nat} (a0:x0<=1000):x0 < 1000000:=by exact z0c a0 (by decide)
theorem akY {x0:Nat}:(1:Int)<=((x0:Int)+(1:Int)):=by exact Int.le_add_of_nonneg_left (z0a _)
theorem akZ {x0:Nat}:(Int.toNat ((-(1:Int))+(((x0+(1:Nat)):Nat):Int)))=x0:=by (rw[Int.natCast_add,Int.add_comm,Int.add_assoc];exact Int.toNat_natCast x0)
theorem ak0 {x0 x1 x2:Nat} (a0:x0<=1) (a1:x1<=x2):(x0+x1)<=(x2+1):=by (rw[Nat.add_comm];exact Nat.add_le_add a1 a0)
theorem ak1 {x0 x1:Nat} (a0:x0<=x1) (a1:x1<=3):x0 < 64:=by exact z0c (z0b a0 a1) (by decide)
theorem agx {x0 x1:Nat} (a0:(x0:Int)=(x1:Int)):x0=x1:=by exact Int.ofNat.inj a0
theorem ak2 {x0:Nat}:(((((x0+(1:Nat)):Nat):Int) - (1:Int)) - ((0:Nat):Int))=(x0:Int):=by simp
theorem ak3 {x0 x1:Nat}:(((((x0+(1:Nat)):Nat):Int) - (1:Int)) - (((x1+(1:Nat)):Nat):Int))=(((x0:Int) - (1:Int)) - (x1:Int)):=by (rw[Int.natCast_add,Int.natCast_add];show ((x0:Int)+1 - 1) - (x1+1)=_;rw[Int.add_sub_cancel,Int.sub_sub,Int.add_comm])
theorem ak4 {x0 x1 x2:Nat} (a0:(x2+1) < x1) (a1:x0=((x1 - 1) - (x2+1))):(x0+1)=((x1 - 1) - x2):=by (subst a1;rw[Nat.sub_add_eq];exact Nat.sub_add_cancel (Nat.sub_pos_of_lt (Nat.lt_sub_of_add_lt a0)))
theorem agy {x0:Nat} (a0:x0<=20):x0<=1000:=by exact z0b a0 (by decide)
theorem ak5 {x0 x1:Nat} (a0:x0 < x1) (a1:x1<=20):x0<=100:=by exact z0b (z0e a0) (z0b a1 (by decide))
theorem ak6 {x0 x1 x2:Nat} (a0:x0=((x1 - 1) - x2)) (a1:x2 < x1) (a2:x2≠0):(x0+1) < x1:=by (subst a0;rw[<-Nat.sub_add_eq,Nat.add_comm 1,Nat.sub_add_eq];exact z0c (z0f (Nat.sub_add_cancel (Nat.sub_pos_of_lt a1))) (Nat.sub_lt (Nat.zero_lt_of_lt a1) (Nat.pos_of_ne_zero a2)))
theorem ak7 {x0 x1:Nat} (a0:x0 < x1) (a1:x1<=20):x0 < 1000000:=by exact z0d a0 (z0b a1 (by decide))
theorem ak8 {x0 x1 x2:Nat} (a0:x0=((x1 - 1) - x2)) (a1:x2 < x1):x0 < x1:=by (subst a0;exact z0c (Nat.sub_le _ _) (Nat.sub_lt (Nat.zero_lt_of_lt a1) Nat.zero_lt_one))
theorem ak9 {x0 x1 x2:Nat} (a0:(x2+(x0+1))=x1):x0=((x1 - 1) - x2):=by (subst a0;simp)
theorem ala {x0 x1 x2:Nat} (a0:(x0+(x2+1))=x1):x0 < x1:=by exact a0▸Nat.lt_add_of_pos_right (Nat.succ_pos _)
theorem alb {x0 x1 x2:Nat} (a0:(x0+(x1+1))=x2):((x0+1)+x1)=x2:=by exact (Nat.succ_add _ _).trans a0
theorem alc {x0:Nat} (a0:x0<=(20:Nat)):((0:Int)<=(x0:Int))/\((x0:Int)<=(1000:Int)):=by exact⟨z0a _,Int.ofNat_le.mpr (z0b a0 (by decide))⟩
theorem ald {x0 x1:Nat} (a0:x1 < x0):((x0 - 1) - x1) < x0:=by exact z0c (Nat.sub_le _ _) (Nat.sub_lt (Nat.zero_lt_of_lt a0) (Nat.zero_lt_one))
theorem ale {x0 x1:Nat} (a0:(x1+1) < x0):((x0 - 1) - x1)=(((x0 - 1) - (x1+1))+1):=by (rw[Nat.sub_add_eq];exact (Nat.sub_add_cancel (Nat.sub_pos_of_lt (Nat.lt_sub_of_add_lt a0))).symm)
theorem alf {x0:Int}:((0:Int) - x0)=(-(x0+(0:Int))):=by (rw[Int.add_zero,Int.zero_sub])
theorem alg {x0 x1 x2:Int}:((-(x0+x1)) - x2)=(-(x2+(x0+x1))):=by (rw[Int.sub_eq_add_neg,<-Int.neg_add,Int.add_comm])
theorem aaA {x0:Nat} (a0:1<=x0):x0=((x0 - 1)+1):=by exact Eq.symm (Nat.sub_add_cancel a0)
theorem alh {x0 x1:Nat} (a0:x0<=(x1+0)) (a1:x1<=x0):x0=x1:=by exact Nat.le_antisymm a0 a1
theorem ali {x0 x1 x2 x3:Nat} (a0:x2 < (x3+0)) (a1:x3<=x2):(x0<=(x1+1))/\(x1<=(x0+1)):=by exact absurd a0 (Nat.not_lt.mpr a1)
theorem alj {x0 x1 x2:Nat} (a0:x0<=(x1+(x2+1))):x0<=((x1+1)+x2):=by exact z0b a0 (z0f (Nat.succ_add _ _).symm)
theorem agz {x0 x1:Nat} (a0:x0<=x1) (a1:¬(x1=x0)):(x0+1)<=x1:=by exact z0h a0 λ h=>a1 h.symm
theorem alk {x0 x1:Nat}:x0 < (x0+(x1+1)):=by exact Nat.lt_add_of_pos_right (Nat.succ_pos _)
theorem alm {x0 x1 x2:Nat} (a0:x0 < ((x1+1)+x2)):x0 < (x1+(x2+1)):=by exact z0d a0 (z0f (Nat.succ_add _ _))
theorem agA {x0 x1:Nat} (a0:x0 < (x1+1)):x0<=(0+x1):=by exact z0b (Nat.le_of_lt_succ a0) (z0f (Nat.zero_add _).symm)
theorem aln {x0 x1:Nat} (a0:(x0+1) < (x1+1)):x0 < (0+x1):=by exact (λ h=>z0d h (Nat.le_add_left _ _)) (Nat.lt_of_succ_lt_succ a0)
theorem alo {x0 x1:Nat} (a0:x0 < (0+x1)):(x0+1) < (x1+1):=by exact Nat.succ_lt_succ (Nat.zero_add x1▸a0)
theorem agB {x0 x1:Nat} (a0:x0<=(0+x1)):x0 < (x1+1):=by exact Nat.lt_succ_of_le (Nat.zero_add x1▸a0)
theorem alp {x0:Nat}:((x0 - 1) - (x0 - 1))=0:=by exact Nat.sub_self _
theorem alq {x0:Nat}:((x0+1) - x0)=1:=by simp
theorem alr {x0 x1:Nat} (a0:x0<=x1) (a1:x1<=20):x0 < 64:=by exact z0c (z0b a0 a1) (by decide)
theorem bD (h:True:=by rfl):True:=trivial
theorem eY (h:True:=by decide):True:=trivial
theorem vC (h:True:=by first |exact Or.inl rfl |exact Or.inr rfl):True:=trivial
theorem vD (h:True:=by first |exact .inl rfl |exact .inr rfl):True:=trivial
theorem Zr (h:True:=by intro Z;rfl):True:=trivial
theorem Zt (h:True:=by first |exact Or.inl rfl |exact Or.inr (Or.inl rfl) |exact Or.inr (Or.inr rfl)):True:=trivial
theorem ap6 (h:True:=by first |exact .inl rfl |exact .inr rfl |assumption):True:=trivial
theorem ap7 (h:True:=by exact Nat.le_of_ble_eq_true rfl):True:=trivial
theorem ap8 (h:True:=by with_unfolding_all rfl):True:=trivial
theorem ap9 (h:True:=by exact nomark _):True:=trivial
theorem aiI (h:True:=by exact λ Z Z=>rfl):True:=trivial
theorem als {x0 x1:Nat} (a0:x0<=x1) (a1:x1 < ((2:Nat) ^ (63:Nat))):¬((x0:Int)>=((2:Int) ^ (63:Nat))):=by exact Int.not_le.mpr (Int.lt_of_lt_of_le (Int.ofNat_lt.mpr (z0c a0 a1)) (by decide:((2 ^ 63:Nat):Int)<=2 ^ 63))
theorem agC {x1 x2:Nat} {x0:Int} (a0:x0 < (x1:Int)) (a1:x1<=x2) (a2:x2 < ((2:Nat) ^ (63:Nat))):x0 < ((2:Int) ^ (63:Nat)):=by exact Int.lt_trans a0 (Int.lt_of_lt_of_le (Int.ofNat_lt.mpr (z0c a1 a2)) (by decide:((2 ^ 63:Nat):Int)<=2 ^ 63))
theorem agD {x1 x2:Nat} {x0:Int} (a0:(-(x1:Int))<=x0) (a1:x1<=x2) (a2:x2 < ((2:Nat) ^ (63:Nat))):(-((2:Int) ^ (63:Nat)))<=x0:=by exact Int.le_trans (Int.neg_le_neg (Int.le_trans (Int.ofNat_le.mpr (z0e (z0c a1 a2))) (by decide:((2 ^ 63:Nat):Int)<=2 ^ 63))) a0
theorem alu {x1 x2:Nat} {x0:Int} (a0:(-(x1:Int))<=x0) (a1:x1<=x2) (a2:x2 < ((2:Nat) ^ (63:Nat))):¬(x0 < (-((2:Int) ^ (63:Nat)))):=by exact Int.not_lt.mpr (Int.le_trans (Int.neg_le_neg (Int.le_trans (Int.ofNat_le.mpr (z0e (z0c a1 a2))) (by decide:((2 ^ 63:Nat):Int)<=2 ^ 63))) a0)
theorem alv {x1 x2:Nat} {x0:Int} (a0:x0 < (x1:Int)) (a1:x1<=x2) (a2:x2 < ((2:Nat) ^ (63:Nat))):¬(x0>=((2:Int) ^ (63:Nat))):=by exact Int.not_le.mpr (Int.lt_trans a0 (Int.lt_of_lt_of_le (Int.ofNat_lt.mpr (z0c a1 a2)) (by decide:((2 ^ 63:Nat):Int)<=2 ^ 63)))
theorem alw {x0:Int} (a0:(1:Int)<=x0) (a1:x0 < ((2:Int) ^ (63:Nat))):((-(9223372036854775808:Int))<=x0)/\(x0 < (9223372036854775808:Int)):=by exact⟨Int.le_trans (by decide) a0,Int.lt_of_lt_of_le a1 (by decide)⟩
theorem alx {x0 x1:Nat} (a0:x0<=x1) (a1:x1<=((((2:Nat) ^ (63:Nat)) - (1:Nat)) / (8:Nat))):¬((x0:Int) > ((((2:Int) ^ (63:Nat)) - (1:Int)) / (8:Int))):=by exact Int.not_lt.mpr (Int.le_trans (Int.ofNat_le.mpr (z0b a0 a1)) (by decide))
theorem aly {x0:Int} (a0:(0:Int)<=x0) (a1:x0<=(1000:Int)):(((((((-((2:Int) ^ (63:Nat)))<=(0:Int))/\((0:Int) < ((2:Int) ^ (63:Nat))))/\(((-((2:Int) ^ (63:Nat)))<=x0)/\(x0 < ((2:Int) ^ (63:Nat)))))/\(((-((2:Int) ^ (63:Nat)))<=(1:Int))/\((1:Int) < ((2:Int) ^ (63:Nat)))))/\(((-((2:Int) ^ (63:Nat)))<=(-(1:Int)))/\((-(1:Int)) < ((2:Int) ^ (63:Nat)))))/\(((-((2:Int) ^ (63:Nat)))<=((0:Int) - (1:Int)))/\(((0:Int) - (1:Int)) < ((2:Int) ^ (63:Nat)))))/\(((-((2:Int) ^ (63:Nat)))<=x0)/\(x0 < ((2:Int) ^ (63:Nat)))):=by (have p:(-(2 ^ 63):Int)<=x0:=Int.le_trans (by decide) a0;have q:x0 < 2 ^ 63:=Int.lt_of_le_of_lt a1 (by decide);exact⟨⟨⟨⟨⟨by decide,p,q⟩,by decide⟩,by decide⟩,by decide⟩,p,q⟩)
theorem agE {x0:Int} (a0:(-(1000:Int))<=x0):(-((2:Int) ^ (62:Nat)))<=x0:=by exact Int.le_trans (by decide) a0
theorem agF {x0:Int} (a0:x0<=(1000:Int)):x0 < ((2:Int) ^ (62:Nat)):=by exact Int.lt_of_le_of_lt a0 (by decide)
theorem alz {x0 x1:Int} (a0:(-(1000:Int))<=x1) (a1:x0<=(1000:Int)):(Int.toNat (x0 - x1))<=((2:Nat) ^ (24:Nat)):=by exact Int.toNat_le.mpr (Int.le_trans (Int.sub_le_sub a1 a0) (by decide))
theorem Hw {x0:Nat} (a0:x0<=20):x0 < (2 ^ 62):=by exact z0c a0 (by decide)
namespace L2
open PySem PySem.Spec PyProof.Rows
noncomputable abbrev Key:=Sum Int Str
noncomputable def keyIs:Key->Value->Bool
 | .inl k,v=>Value.isInt k v
 | .inr x,v=>Value.isStrOf x v
noncomputable def keyH (w:World):Key->Int
 | .inl k=>hashInt k
 | .inr x=>hashStr w x
theorem keyIs_shape:∀{k:Key} {v:Value},keyIs k v=true->(∃i t,k=Sum.inl i/\v=Value.int i t)\/(∃x t,k=Sum.inr x/\v=Value.str x t)
 | .inl i,v,h=>by
  obtain⟨t,e⟩:=Value.isInt_shape (k:=i) (v:=v) h
  exact .inl ⟨i,t,rfl,e⟩
 | .inr x,v,h=>by
  obtain⟨t,e⟩:=Value.isStrOf_shape (x:=x) (v:=v) h
  exact .inr ⟨x,t,rfl,e⟩
theorem key_ll (a b:Int):decide ((Sum.inl a:Key)=Sum.inl b)=(a ==b):=by
 by_cases e:a=b
 ·subst e;simp
 ·have h:¬(Sum.inl a:Key)=Sum.inl b:=λ q=>e (Sum.inl.inj q)
  rw[decide_eq_false h]
  exact (beq_eq_false_iff_ne.mpr e).symm
theorem key_rr (a b:Str):decide ((Sum.inr a:Key)=Sum.inr b)=decide (a=b):=by
 by_cases e:a=b
 ·subst e;simp
 ·have h:¬(Sum.inr a:Key)=Sum.inr b:=λ q=>e (Sum.inr.inj q)
  rw[decide_eq_false h,decide_eq_false e]
theorem key_lr (a:Int) (b:Str):decide ((Sum.inl a:Key)=Sum.inr b)=false:=decide_eq_false (λ q=>nomatch q)
theorem key_rl (a:Str) (b:Int):decide ((Sum.inr a:Key)=Sum.inl b)=false:=decide_eq_false (λ q=>nomatch q)
noncomputable def mixKind (prog:Program) (w:World):PySem.KeyKind prog w Key where
 is:=keyIs
 hash:=keyH w
 inj :=λ v a b ha hb=>by
  rcases keyIs_shape ha with⟨i,t,rfl,rfl⟩ |⟨x,t,rfl,rfl⟩
  ·rcases keyIs_shape hb with⟨j,u,rfl,e⟩ |⟨y,u,rfl,e⟩
   ·injection e with e1 _;rw[e1]
   ·exact nomatch e
  ·rcases keyIs_shape hb with⟨j,u,rfl,e⟩ |⟨y,u,rfl,e⟩
   ·exact nomatch e
   ·injection e with e1 _;rw[e1]
 byValue:=λ k v h=>by
  rcases keyIs_shape h with⟨i,t,rfl,rfl⟩ |⟨x,t,rfl,rfl⟩ <;> rfl
 pyHash:=λ hv h=>by
  rcases keyIs_shape hv with⟨i,t,rfl,rfl⟩ |⟨x,t,rfl,rfl⟩
  ·exact wpAny_pyHash_int h
  ·exact wpAny_pyHash_str h
 eqBool:=λ hu hv h=>by
  rcases keyIs_shape hu with⟨i,t,rfl,rfl⟩ |⟨x,t,rfl,rfl⟩
  ·rcases keyIs_shape hv with⟨j,u,rfl,rfl⟩ |⟨y,u,rfl,rfl⟩
   ·rw[key_ll] at h;exact wpAny_eqBool_int h
   ·rw[key_lr] at h;exact SeqAt.EqAt.int_str i t y u _ _ _ _ h
  ·rcases keyIs_shape hv with⟨j,u,rfl,rfl⟩ |⟨y,u,rfl,rfl⟩
   ·rw[key_rl] at h;exact SeqAt.EqAt.str_int x t j u _ _ _ _ h
   ·rw[key_rr] at h;exact wpAny_eqBool_str h
 «strs»:=λ k x t v h=>by
  rcases keyIs_shape h with⟨i,u,rfl,e⟩ |⟨y,u,rfl,e⟩
  ·exact nomatch e
  ·injection e with e1 _
   subst e1
   cases v <;> rfl
set_option genInjectivity true in
inductive V where
 |non |bl (b:Bool) |int (i:Int) |str (x:Str) |byt (b:Array UInt8) |flt (b:UInt64) |ref (a:Addr) |ty (n:String)
 deriving DecidableEq
noncomputable def RelV:V->Value->Prop
 | .non,u=>u=Value.none
 | .bl b,u=>u=Value.bool b
 | .int i,u=>∃t,u=Value.int i t
 | .str x,u=>∃t,u=Value.str x t
 | .byt b,u=>∃t,u=Value.bytes b t
 | .flt b,u=>∃t,u=Value.float b t
 | .ref a,u=>u=Value.ref a
 | .ty n,u=>u=Value.type n
noncomputable abbrev Vals:List V->List Value->Prop:=Paired RelV
theorem Vals.length {xs:List V} {us:List Value} (r:Vals xs us):xs.length=us.length:=Paired.length r
theorem Vals.get:∀{xs:List V} {us:List Value} {i:Nat} {x:V},Vals xs us->xs[i]?=some x->∃u,us[i]?=some u/\RelV x u
 |_,_,_,_,.nil,e=>by simp at e
 |_,_,0,_,.cons r _,e=>by simp at e;subst e;exact⟨_,rfl,r⟩
 | _,_,i+1,x,.cons _ t,e=>by
  obtain⟨u,h1,h2⟩:=Vals.get (i:=i) (x:=x) t (by simpa using e)
  exact⟨u,by simpa using h1,h2⟩
theorem Vals.append:∀{xs ys:List V} {us ws:List Value},Vals xs us->Vals ys ws->Vals (xs++ys) (us++ws)
 :=by
 intro xs ys us ws h q
 induction h with
 |nil=>exact q
 |cons r t ih=>exact .cons r ih
theorem Vals.take:∀{xs:List V} {us:List Value} (n:Nat),Vals xs us->Vals (xs.take n) (us.take n)
 |_,_,0,_=> .nil
 |_,_,_+1,.nil=> .nil
 |_,_,n+1,.cons r t=> .cons r (Vals.take n t)
theorem Vals.drop:∀{xs:List V} {us:List Value} (n:Nat),Vals xs us->Vals (xs.drop n) (us.drop n)
 |_,_,0,r=>r
 |_,_,_+1,.nil=> .nil
 |_,_,n+1,.cons _ t=>Vals.drop n t
noncomputable def RelO:Option V->Option Value->Prop
 |some v,some u=>RelV v u
 |none,none=>True
 |_,_=>False
noncomputable def KV {κ:Type}:List (κ×V)->List (κ×Value)->Prop:=Paired λ (p:κ×V) (q:κ×Value)=>p.1=q.1/\RelV p.2 q.2
noncomputable def kV:Key->V
 | .inl i=> .int i
 | .inr x=> .str x
set_option genInjectivity true in
inductive HO where
 /-- a list -/
 |lst (xs:List V)
 /-- a tuple (never changes) -/
 |tup (xs:List V)
 /-- a dict whose keys are ints and texts;one whose keys are tuples of ints and texts (the empty one is both) -/
 |dK (kvs:List (Key×V)) |dT (kvs:List (List Key×V))
 /-- a set of ints:its members,its size -/
 |set (S:Int->Bool) (n:Nat)
 /-- an instance of the class at C,its dict at dx,its attributes -/
 |ins (C dx:Addr) (fs:List (Str×V))
 /-- the dict of the instance at x -/
 |own (x:Addr)
 /-- the dict of an exception -/
 |xd (fs:List (Str×V))
 /-- a bound method,f of x -/
 |met (f x:Addr)
 /-- a range object lo,lo+1,.. below hi -/
 |rng (lo hi:Int)
 /-- a thing that is known to the object (the script;a dict while a loop walks it):read,never written while it is so -/
 |frz (o:Obj) (u:HO)
 /-- a code object's table -/
 |tbl (ps:Array Value)
 /-- any other thing,by what is true of its one object (a def of one's own:SetO a S n:=HO.ext λ h=> ..) -/
 |ext (φ:Heap->Prop)
noncomputable abbrev Hp:=Addr->Option HO
noncomputable def upd (H:Hp) (a:Addr) (o:HO):Hp:=λ b=>if b=a then some o else H b
theorem upd_same {H:Hp} {a:Addr} {o:HO}:upd H a o a=some o:=by unfold upd;rw[if_pos rfl]
theorem upd_ne {H:Hp} {a b:Addr} {o:HO} (h:b≠a):upd H a o b=H b:=by unfold upd;rw[if_neg h]
theorem ne_of_none {H:Hp} {a b:Addr} {o:HO} (h:H a=some o) (h':H b=none):a≠b:=by
 intro e;subst e;rw[h] at h';injection h'
section
variable (P:Program) (w:World)
noncomputable def ObjOk (H:Hp) (h:Heap) (a:Addr):HO->Prop
 | .lst xs=>xs.length<=sizeLine/\∃(its:List Value) (n:Nat),Vals xs its/\h.get? a=some {cls:= .type "list",data:= .seq its.toArray n}
 | .tup xs=>xs.length<=sizeLine/\∃its:List Value,Vals xs its/\IsTup h a its.toArray
 | .dK kvs=>kvs.length<=sizeLine/\(a ==sysModules)=false/\∃vs,KV kvs vs/\h.DictOf (mixKind P w) a vs
 | .dT kvs=>kvs.length<=sizeLine/\(a ==sysModules)=false/\∃xs:List (List Key×Addr×Value),
   Paired (λ (p:List Key×V) (q:List Key×Addr×Value)=>p.1=q.1/\H q.2.1=some (.tup (p.1.map kV))/\RelV p.2 q.2.2) kvs xs/\
   ∃o es ep,h.get? a=some o/\o.ExactDict/\o.data= .dict es ep/\es.toList=xs.map (entryOfKey (tupleKind (mixKind P w)))/\(xs.map (·.1)).Nodup
 | .set S n=>h.SetOf (intKind P w) a S n
 | .ins C dx fs=>H dx=some (.own a)/\fs.length<=1000/\dx≠a/\h.get? a=some (PySem.W.instObj C dx)/\
   ∃mA,h.Ns1 dx mA/\(∀f,RelO (fs.lookup f) (mA f))/\PySem.Within mA (fs.map (·.1))
 | .own _=>∃o,h.get? a=some o
 | .xd fs=>∃mA,h.Ns1 a mA/\∀f,RelO (fs.lookup f) (mA f)
 | .rng lo hi=>∃t u v,h.get? a=some {cls:= .type "range",data:= .fields #[.int lo t,.int hi u,.int 1 v]}
 | .frz o u=>h.get? a=some o/\ObjOk H h a u
 | .tbl ps=>∃qs:Array Value,h.get? a=some (PySem.W.tabObj qs)/\TriplesOk qs.toList/\∀pos cv,codeAmong pos qs.toList=some cv->∃c oc vs q t tq,cv= .ref c/\H c=some (.frz oc (.own c))/\oc.data= .fields vs/\vs[1]?=some (.str q t)/\ps[0]?=some (.str q tq)
 | .met f x=>h.get? a=some (PySem.W.methodObj (.ref f) (.ref x))
 | .ext φ=>φ h/\(∃o,h.get? a=some o)/\∀h1 h2:Heap,φ h1->(∀o,h1.get? a=some o->h2.get? a=some o)->φ h2
noncomputable def HOk (H:Hp) (h:Heap):Prop:=∀a o,H a=some o->ObjOk P w H h a o
end
section
variable {P:Program} {w:World} {H H':Hp} {h h':Heap} {a:Addr} {o:HO}
theorem ObjOk.lt (x:ObjOk P w H h a o):a < h.objs.size:=by
 cases o with
 |lst xs=>obtain⟨_,_,_,_,e⟩:=x;exact z2c e
 |tup xs=>obtain⟨_,_,_,p⟩:=x;exact p.lt
 |dK kvs=>obtain⟨_,_,_,_,o,_,_,e,_⟩:=x;exact z2c e
 |dT kvs=>obtain⟨_,_,_,_,o,_,_,e,_⟩:=x;exact z2c e
 |set S n=>obtain⟨o,_,_,_,e,_⟩:=x;exact z2c e
 |ins C dx fs=>obtain⟨_,_,_,e,_⟩:=x;exact z2c e
 |own y=>obtain⟨_,e⟩:=x;exact z2c e
 |xd fs=>obtain⟨_,⟨_,_,_,e,_⟩,_⟩:=x;exact z2c e
 |rng lo hi=>obtain⟨_,_,_,e⟩:=x;exact z2c e
 |frz ob u=>obtain⟨e,_⟩:=x;exact z2c e
 |tbl ps=>obtain⟨_,e,_⟩:=x;exact z2c e
 |met f y=>exact z2c (show h.get? a=some _ from x)
 |ext φ=>obtain⟨_,⟨_,e⟩,_⟩:=x;exact z2c e
theorem Paired.mapP {α β:Type} {F G:α->β->Prop}:∀{l₁:List α} {l₂:List β},Paired F l₁ l₂->(∀a b,F a b->G a b)->Paired G l₁ l₂
 :=by
 intro l₁ l₂ h f
 induction h with
 |nil=>exact .nil
 |cons r t ih=>exact .cons (f _ _ r) ih
theorem ObjOk.stay (x:ObjOk P w H h a o) (k:∀b u,(b=a\/H b=some (.own a))->h.get? b=some u->h'.get? b=some u)
  (ho:∀b,H b=some (.own a)->H' b=some (.own a)) (ht:∀b xs,H b=some (.tup xs)->H' b=some (.tup xs)) (hz:∀b o u,(∃vs,o.data= .fields vs)->H b=some (.frz o u)->H' b=some (.frz o u)):ObjOk P w H' h' a o:=by
 induction o with
 |lst xs=>obtain⟨z,its,n,r,e⟩:=x;exact⟨z,its,n,r,k _ _ (.inl rfl) e⟩
 |tup xs=>obtain⟨z,its,r,ob,e,c⟩:=x;exact⟨z,its,r,ob,k _ _ (.inl rfl) e,c⟩
 |dK kvs=>obtain⟨z,y,vs,r,ob,es,ep,e,c⟩:=x;exact⟨z,y,vs,r,ob,es,ep,k _ _ (.inl rfl) e,c⟩
 | dT kvs=>
  refine bc λ zQ=>?_
  obtain⟨z,y,xs,r,ob,es,ep,e,c⟩:=x
  apply zQ;clear zQ
  exact⟨z,y,xs,Paired.mapP r λ p q z=>⟨z.1,ht _ _ z.2.1,z.2.2⟩,ob,es,ep,k _ _ (.inl rfl) e,c⟩
 |set S n=>obtain⟨ob,es,ep,t,e,c⟩:=x;exact⟨ob,es,ep,t,k _ _ (.inl rfl) e,c⟩
 | ins C dx fs=>
  refine bc λ zQ=>?_
  obtain⟨d,z,ne,e,mA,⟨od,es,ep,e2,c⟩,r⟩:=x
  apply zQ;clear zQ
  exact⟨ho _ d,z,ne,k _ _ (.inl rfl) e,mA,⟨od,es,ep,k _ _ (.inr d) e2,c⟩,r⟩
 |own y=>obtain⟨ob,e⟩:=x;exact⟨ob,k _ _ (.inl rfl) e⟩
 |xd fs=>obtain⟨mA,⟨od,es,ep,e,c⟩,r⟩:=x;exact⟨mA,⟨od,es,ep,k _ _ (.inl rfl) e,c⟩,r⟩
 |rng lo hi=>obtain⟨t,u,v,e⟩:=x;exact⟨t,u,v,k _ _ (.inl rfl) e⟩
 |frz ob u ih=>obtain⟨e,q⟩:=x;exact⟨k _ _ (.inl rfl) e,ih q⟩
 | tbl ps=>
  refine bc λ zQ=>?_
  obtain⟨qs,e,tr,al⟩:=x
  apply zQ;clear zQ
  exact⟨qs,k a _ (.inl rfl) e,tr,λ p cv z=>by
   refine bc λ zQ=>?_
   obtain⟨c,oc,vs,q,t,tq,e1,e2,e3,r⟩:=al p cv z
   apply zQ;clear zQ
   exact⟨c,oc,vs,q,t,tq,e1,hz _ _ _ ⟨vs,e3⟩ e2,e3,r⟩⟩
 | met f y=>
  have e:h.get? a=some (PySem.W.methodObj (.ref f) (.ref y)):=x
  show h'.get? a=some (PySem.W.methodObj (.ref f) (.ref y))
  exact k a _ (.inl rfl) e
 |ext φ=>obtain⟨p,⟨o,e⟩,st⟩:=x;exact⟨st _ _ p λ o q=>k _ _ (.inl rfl) q,⟨o,k _ _ (.inl rfl) e⟩,st⟩
theorem HOk.lt (x:HOk P w H h) (e:H a=some o):a < h.objs.size:=(x a o e).lt
theorem HOk.fresh (x:HOk P w H h) (e:h.objs.size<=a):H a=none:=by
 cases q:H a with
 |none=>rfl
 |some u=>exact absurd (z0d (x.lt q) e) (Nat.lt_irrefl _)
theorem HOk.kept (x:HOk P w H h) (k:∀b u,h.get? b=some u->h'.get? b=some u):HOk P w H h':=λ a o e=>
 (x a o e).stay (λ b u Z q=>k b u q) (λ Z q=>q) (λ Z Z q=>q) λ Z Z Z Z q=>q
theorem HOk.laid (x:HOk P w H h) (k:∀b u,h.get? b=some u->h'.get? b=some u) (hp:h.objs.size<=a) (new:ObjOk P w (upd H a o) h' a o):HOk P w (upd H a o) h':=λ b u e=>by
 have hn:=x.fresh hp
 by_cases hb:b=a
 ·subst hb;rw[upd_same] at e;(injection e with aD;subst aD);exact new
 ·rw[upd_ne hb] at e
  exact (x b u e).stay (λ c v Z q=>k c v q) (λ c q=>by rw[upd_ne (ne_of_none q hn)];exact q) (λ c xs q=>by rw[upd_ne (ne_of_none q hn)];exact q) λ c Z Z Z q=>by rw[upd_ne (ne_of_none q hn)];exact q
end
noncomputable def Rd (H:Hp) (a:Addr) (u:HO):Prop:=H a=some u\/∃o,H a=some (.frz o u)
theorem Rd.ok {P:Program} {w:World} {H:Hp} {h:Heap} {a:Addr} {u:HO} (r:Rd H a u) (x:HOk P w H h):ObjOk P w H h a u:=by
 rcases r with r |⟨o,r⟩
 ·exact x a u r
 ·obtain⟨_,q⟩:=x a _ r
  exact q
noncomputable def Mut:Option HO->Prop
 |some (.lst _)=>True
 |some (.dK _)=>True
 |some (.dT _)=>True
 |some (.set _ _)=>True
 |some (.ins _ _ _)=>True
 |some (.ext _)=>True
 |_=>False
section
variable {P:Program} {w:World} {H:Hp} {h h':Heap} {x e:Addr} {o':HO}
theorem HOk.write (ok:HOk P w H h) (mu:Mut (H x)) (he:e=x\/H e=some (.own x)) (k:∀b u,b≠e->h.get? b=some u->h'.get? b=some u) (heo:∃u,h'.get? e=some u)
  (new:ObjOk P w (upd H x o') h' x o'):HOk P w (upd H x o') h':=λ b u q=>by
 have nown:∀c y,H c=some (.own y)->c≠x:=λ c y r z=>by subst z;rw[r] at mu;exact mu
 have ntup:∀c xs,H c=some (.tup xs)->c≠x:=λ c xs r z=>by subst z;rw[r] at mu;exact mu
 by_cases hb:b=x
 ·subst hb;rw[upd_same] at q;(injection q with aD;subst aD);exact new
 ·rw [upd_ne hb] at q
  by_cases hbe:b=e
  ·have q':H b=some (.own x):=by
    rcases he with z |z
    ·exact absurd (hbe.trans z) hb
    ·rw[hbe];exact z
   rw[q] at q';(injection q' with aD;subst aD)
   obtain⟨v,hv⟩:=heo
   exact⟨v,by rw[hbe];exact hv⟩
  ·refine (ok b u q).stay (λ c v hc r=>k c v ?_ r) (λ c r=>by rw[upd_ne (nown c b r)];exact r) (λ c xs r=>by rw[upd_ne (ntup c xs r)];exact r) λ c o1 u1 Z r=>by rw[upd_ne (λ z=>by rw[z] at r;rw[r] at mu;exact mu)];exact r
   rcases hc with rfl |hc
   ·exact hbe
   ·rintro rfl
    rcases he with z |z
    ·exact nown c b hc z
    ·rw[hc] at z;cases z;exact hb rfl
end
structure Un (fs ex:List Addr) (H H':Hp) (h h':Heap):Prop where
 keep:∀b o,h.get? b=some o->H b=none->b∉fs->b∉ex->h'.get? b=some o
 slot:∀b o,h.get? b=some o->H b=none->b∈fs->b∉ex->∃sl,h'.get? b=some {o with slots:=sl}
 free:∀b o,h.get? b=some o->H b=none->b∉ex->H' b=none
 there:∀b o,h.get? b=some o->b∉ex->∃o',h'.get? b=some o'
 tups:∀b xs,H b=some (.tup xs)->H' b=some (.tup xs)
 frzs:∀b o u,H b=some (.frz o u)->H' b=some (.frz o u)
 tbls:∀b ps,H b=some (.tbl ps)->∃more,H' b=some (.tbl (ps++more))
section
variable {fs fs' ex ex':List Addr} {H H1 H2:Hp} {h h1 h2 h':Heap} {a x e:Addr} {o:HO}
theorem Un.any (u:Un fs ex H H1 h h1) {b:Addr} {ob:Obj} (q:h.get? b=some ob) (n:H b=none) (hx:b∉ex):∃sl,h1.get? b=some {ob with slots:=sl}:=by
 by_cases hb:b∈fs
 ·exact u.slot b ob q n hb hx
 ·exact⟨ob.slots,u.keep b ob q n hb hx⟩
theorem Un.kept (k:∀b u,h.get? b=some u->h'.get? b=some u):Un fs ex H H h h':=
 ⟨λ b ob q Z Z Z=>k b ob q,λ b ob q Z Z Z=>⟨ob.slots,k b ob q⟩,λ Z Z Z n Z=>n,λ b ob q Z=>⟨ob,k b ob q⟩,λ Z Z q=>q,λ Z Z Z q=>q,λ Z ps q=>⟨#[],by rw[q];simp⟩⟩
theorem Un.refl:Un fs ex H H h h:=Un.kept λ Z Z q=>q
theorem Un.laid (k:∀b u,h.get? b=some u->h'.get? b=some u) (hp:h.objs.size<=a) (hn:H a=none):Un fs ex H (upd H a o) h h' where
 keep:=λ b u q Z Z Z=>k b u q
 slot:=λ b u q Z Z Z=>⟨u.slots,k b u q⟩
 free:=λ b u q n Z=>by rw[upd_ne (Nat.ne_of_lt (z0d (z2c q) hp))];exact n
 there:=λ b u q Z=>⟨u,k b u q⟩
 tups:=λ b xs q=>by rw[upd_ne (ne_of_none q hn)];exact q
 frzs:=λ b u xs q=>by rw[upd_ne (ne_of_none q hn)];exact q
 tbls:=λ b ps q=>⟨#[],by rw[upd_ne (ne_of_none q hn),q];simp⟩
theorem Un.write (mu:Mut (H x)) (he:e=x\/H e=some (.own x)) (k:∀b u,b≠e->h.get? b=some u->h'.get? b=some u) (heo:∃u,h'.get? e=some u):Un fs ex H (upd H x o) h h':=by
 have hx:∀b,H b=none->b≠x:=λ b n z=>by subst z;rw[n] at mu;exact mu
 have hb:∀b,H b=none->b≠e:=λ b n z=>by
  subst z
  rcases he with r |r
  ·exact hx b n r
  ·rw[n] at r;injection r
 have hm:∀b u,H b=some u->¬Mut (some u)->b≠x:=λ b u q nm z=>by subst z;rw[q] at mu;exact nm mu
 refine⟨λ b u q n Z Z=>k b u (hb b n) q,λ b u q n Z Z=>⟨u.slots,k b u (hb b n) q⟩,λ b u q n Z=>by rw[upd_ne (hx b n)];exact n,λ b u q Z=>?_,
  λ b xs q=>by rw[upd_ne (hm b _ q λ z=>z)];exact q,λ b u xs q=>by rw[upd_ne (hm b _ q λ z=>z)];exact q,λ b ps q=>⟨#[],by rw[upd_ne (hm b _ q λ z=>z),q];simp⟩⟩
 by_cases hbe:b=e
 ·subst hbe;exact heo
 ·exact⟨u,k b u hbe q⟩
end
noncomputable def trk (h:Heap) (H:Hp):List Addr:=(List.range h.objs.size).filter λ a=>(H a).isSome
noncomputable def hidT (h:Heap) (H:Hp):Heap:=PySem.W.hideAll h (trk h H)
theorem hidT_size (h:Heap) (H:Hp):(hidT h H).objs.size=h.objs.size:=PySem.W.hideAll_size _ _
theorem hidT_get {h:Heap} {H:Hp} {b:Addr} {o:Obj} (e:h.get? b=some o) (n:H b=none):(hidT h H).get? b=some o:=
 PySem.W.hideAll_get _ e λ hm=>by
  have q:(H b).isSome=true:=(List.mem_filter.mp hm).2
  rw[n] at q;simp at q
theorem of_hidT {h:Heap} {H:Hp} {b:Addr} {o:Obj} (e:(hidT h H).get? b=some o):h.get? b=some o/\H b=none:=by
 have e':h.get? b=some o:=PySem.W.of_hideAll (trk h H) e
 refine⟨e',?_⟩
 cases q:H b with
 |none=>rfl
 | some x=>
  have hm:b∈trk h H:=List.mem_filter.mpr ⟨List.mem_range.mpr (z2c e'),by simp[q]⟩
  have z:(hidT h H).get? b=none:=PySem.W.hideAll_none (trk h H) hm
  rw[z] at e;injection e
noncomputable def allNews (g h:Heap) (L:Addr):List (Addr×Obj):=(List.range h.objs.size).filterMap λ a=>if a=L\/(g.get? a).isSome=true then none else (h.get? a).map λ o=>(a,o)
noncomputable def rest (g h:Heap) (L d:Addr):List (Addr×Obj):=(allNews g h L).filter λ p=>decide (p.1≠d)
structure Mod (K:PySem.W.Frag) (mg:Str->Option Value) (base:Heap):Prop where
 kin:K.In base
 glob:base.Ns mainGlobals mg
 blt:∃mb,base.Ns builtinsNs mb/\∀x:Str,x≠"__name__"->mb x=bootBuiltins x
 nolimit:base.NoLimit
structure Cx where
 prog:Program
 w:World
 K:PySem.W.Frag
 mg:Str->Option Value
 base:Heap
 A:Around
 N:List Str
 s₀:Shared
 H₀:Hp
 env:Env
 outer:List Env
 stack:List Env
 ex:List Addr
 fn:Str->Bool
 calm:Bool
 pn:List (Addr×Obj)
 xe:Value->Shared->Prop
noncomputable def frs (l:List Env):List Addr:=l.filterMap (·.frame)
noncomputable abbrev Cx.fs (X:Cx):List Addr:=frs X.outer
noncomputable def Vis (sc:Scope) (x:Str):Prop:=sc.names.lookup x=some .local\/sc.names.lookup x=some .cell\/sc.names.lookup x=some .free
noncomputable def Loc (sc:Scope) (x:Str):Prop:=sc.names.lookup x=some .local\/sc.names.lookup x=some .cell
noncomputable def Look (env:Env) (h:Heap) (m:Str->Option Value) (x:Str) (u:Value):Prop:=
 (env.kindOf x=some .local/\m x=some u)\/((env.kindOf x=some .cell\/env.kindOf x=some .free)/\∃c,env.cells.lookup x=some c/\h.IsCell c (some u))
structure Cx.Ok (X:Cx):Prop where
 mod:Mod X.K X.mg X.base
 kind:X.env.scope.kind= .function
 glob:X.env.globals=mainGlobals
 blt:X.env.builtins=builtinsNs
 above:X.s₀.heap.objs.size<=X.env.locals
 inj:∀x y c,X.env.cells.lookup x=some c->X.env.cells.lookup y=some c->x=y
 has:∀x,(X.env.kindOf x=some .cell\/X.env.kindOf x=some .free)->∃c,X.env.cells.lookup x=some c
 cab:∀x c,X.fn x=true->X.env.cells.lookup x=some c->X.s₀.heap.objs.size<=c
 hd:X.calm=true->X.A.handled=none
 frames:X.A.frames=some X.stack
 stk:X.stack=X.outer\/(X.stack=X.env::X.outer/\X.env.frame=some X.env.locals)
 exf:∀b∈X.ex,b≠X.env.locals/\∀x c,X.env.cells.lookup x=some c->c≠b
 bs:∀b o,X.base.get? b=some o->X.s₀.heap.get? b=some o/\X.H₀ b=none
 bsz:X.base.objs.size<=X.s₀.heap.objs.size
 noex:∀b o,X.base.get? b=some o->b∉X.ex
 exfs:∀b∈X.ex,b∉X.fs
 funs:X.s₀.heap.FunFrames X.base X.outer
 frf:∀b∈X.fs,X.H₀ b=none
structure Inv (X:Cx) (pins:List (Addr×Obj)) (σ:List (Option V)) (H:Hp) (s:Shared):Prop where
 ok:X.Ok
 os:s.os=X.s₀.os
 bare:AllBare s.gens
 base:Un X.fs X.ex X.H₀ H X.s₀.heap s.heap
 loc:∃m,s.heap.Ns X.env.locals m/\∀(i:Nat) (x:Str) (v:V),X.N[i]?=some x->σ[i]?=some (some v)->Vis X.env.scope x->∃u,RelV v u/\Look X.env s.heap m x u
 cell:∀x c,X.env.cells.lookup x=some c->∃v,s.heap.IsCell c v
 free:H X.env.locals=none
 freeC:∀x c,X.env.cells.lookup x=some c->H c=none
 pin:∀p∈X.pn++pins,s.heap.get? p.1=some p.2/\H p.1=none/\p.1≠X.env.locals/\p.1∉X.fs/\∀v,p.2.data≠.cell v
 hok:HOk X.prog X.w H s.heap
 len:σ.length=X.N.length
section
variable {X:Cx} {pins:List (Addr×Obj)} {σ:List (Option V)} {H H':Hp} {s:Shared} {h':Heap}
theorem Cx.Ok.nofr (ok:X.Ok) {b:Addr} {o:Obj} (e:X.base.get? b=some o):b∉X.fs:=λ hb=>by
 have:=(ok.funs.mem hb).1
 rw[e] at this;injection this
theorem Inv.bs (I:Inv X pins σ H s):∀b o,X.base.get? b=some o->s.heap.get? b=some o/\H b=none:=λ b o e=>
 ⟨I.base.keep b o (I.ok.bs b o e).1 (I.ok.bs b o e).2 (I.ok.nofr e) (I.ok.noex b o e),I.base.free b o (I.ok.bs b o e).1 (I.ok.bs b o e).2 (I.ok.noex b o e)⟩
theorem Inv.bk (I:Inv X pins σ H s):∀b o,X.base.get? b=some o->s.heap.get? b=some o:=λ b o e=>(I.bs b o e).1
theorem Inv.mod (I:Inv X pins σ H s):Mod X.K X.mg X.base:=I.ok.mod
theorem Inv.kIn (I:Inv X pins σ H s):X.K.In s.heap:=I.ok.mod.kin.keeps I.bk
theorem Inv.lt (I:Inv X pins σ H s):X.env.locals < s.heap.objs.size:=let ⟨_,hn,_⟩:=I.loc;hn.lt
theorem Inv.sz (I:Inv X pins σ H s):X.s₀.heap.objs.size<=s.heap.objs.size:=z0b I.ok.above (z0e I.lt)
theorem Inv.nofs (I:Inv X pins σ H s) {a:Addr} (h:s.heap.objs.size<=a):a∉X.fs:=λ hb=>by
 obtain⟨_,o,ho,_⟩:=I.ok.funs.mem hb
 exact absurd (z0d (z2c ho) (z0b I.sz h)) (Nat.lt_irrefl _)
theorem Inv.cne (I:Inv X pins σ H s):∀x c,X.env.cells.lookup x=some c->c≠X.env.locals:=λ x c e z=>by
 obtain⟨v,o,ho,hd⟩:=I.cell x c e
 obtain⟨m,⟨o',es,ep,ho',hd',_⟩,_⟩:=I.loc
 rw[z,ho'] at ho;cases ho;rw[hd'] at hd;injection hd
theorem Inv.funs (I:Inv X pins σ H s):s.heap.FunFrames X.base X.outer:=by
 have all:∀(l:List Env),(∀b∈frs l,b∈X.fs)->X.s₀.heap.FunFrames X.base l->s.heap.FunFrames X.base l:=by
  intro l
  induction l with
  |nil=>intro Z Z;trivial
  | cons env r ih=>
   intro hs hl
   obtain⟨hk,⟨L,o,hf,hn,ho,hd⟩,hr⟩:=hl
   have hL:L∈X.fs:=hs L (by unfold frs;rw[List.filterMap_cons,hf];exact List.mem_cons_self)
   obtain⟨sl,e⟩:=I.base.slot L o ho (I.ok.frf L hL) hL λ z=>I.ok.exfs L z hL
   exact⟨hk,⟨L,_,hf,hn,e,hd⟩,ih (λ b hb=>hs b (by unfold frs;rw[List.filterMap_cons,hf];exact z2f _ hb)) hr⟩
 exact all X.outer (λ Z hb=>hb) I.ok.funs
theorem Inv.stack (I:Inv X pins σ H s):s.heap.FunFrames X.base X.stack:=by
 rcases I.ok.stk with e |⟨e,hf⟩
 ·rw[e];exact I.funs
 ·rw[e]
  obtain⟨m,hn,_⟩:=I.loc
  refine .cons (by rw[I.ok.kind];decide) hf hn ?_ I.funs
  exact Heap.get?_none_of_le (z0b I.ok.bsz I.ok.above)
theorem Inv.stkSub (I:Inv X pins σ H s):∀b∈frs X.stack,b∈X.env.locals::X.fs:=λ b hb=>by
 rcases I.ok.stk with e |⟨e,hf⟩
 ·rw[e] at hb;exact z2f _ hb
 ·rw[e] at hb
  unfold frs at hb
  rw[List.filterMap_cons,hf] at hb
  exact hb
theorem Inv.stkFree (I:Inv X pins σ H s):∀b∈frs X.stack,H b=none:=λ b hb=>by
 rcases List.mem_cons.mp (I.stkSub b hb) with e |hb
 ·rw[e];exact I.free
 ·obtain⟨_,o,ho,_⟩:=I.ok.funs.mem hb
  exact I.base.free b o ho (I.ok.frf b hb) λ z=>I.ok.exfs b z hb
theorem Inv.step {g':Array GenState} {t':Nat} {d':Drawn} {ch:List Addr} (I:Inv X pins σ H s)
  (hch:∀b∈ch,(b∈X.ex\/X.s₀.heap.objs.size<=b)/\b≠X.env.locals/\(∀x c,X.env.cells.lookup x=some c->c≠b)/\∀p∈X.pn++pins,p.1≠b)
  (keep:∀b o,b≠X.env.locals->b∉X.fs->b∉ch->s.heap.get? b=some o->H b=none->h'.get? b=some o)
  (slot:∀b o,b≠X.env.locals->b∈X.fs->b∉ch->s.heap.get? b=some o->H b=none->∃sl,h'.get? b=some {o with slots:=sl}) (free:∀b o,b∉ch->s.heap.get? b=some o->H b=none->H' b=none)
  (there:∀b o,b∉ch->s.heap.get? b=some o->∃o',h'.get? b=some o')
  (tups:∀b xs,H b=some (.tup xs)->H' b=some (.tup xs)) (frzs:∀b o u,H b=some (.frz o u)->H' b=some (.frz o u)) (tbls:∀b ps,H b=some (.tbl ps)->∃more,H' b=some (.tbl (ps++more)))
  (ns:∀m,s.heap.Ns X.env.locals m->h'.Ns X.env.locals m) (hok:HOk X.prog X.w H' h') (hg:AllBare g'):
  Inv X pins σ H' {s with heap:=h',gens:=g',drawn:=d',toks:=t'}:=by
 have neL:∀b o,X.s₀.heap.get? b=some o->b≠X.env.locals:=λ b o e=>Nat.ne_of_lt (z0d (z2c e) I.ok.above)
 have neC:∀b o,X.s₀.heap.get? b=some o->b∉X.ex->b∉ch:=λ b o e hx hb=>by
  rcases (hch b hb).1 with z |z
  ·exact hx z
  ·exact absurd (z0d (z2c e) z) (Nat.lt_irrefl _)
 have cellK:∀x c,X.env.cells.lookup x=some c->∀v,s.heap.IsCell c v->h'.IsCell c v:=λ x c e v ⟨o,ho,hd⟩=>by
  have nch:c∉ch:=λ z=>(hch c z).2.2.1 x c e rfl
  by_cases hc:c∈X.fs
  ·obtain⟨sl,q⟩:=slot c o (I.cne x c e) hc nch ho (I.freeC x c e)
   exact⟨_,q,hd⟩
  ·exact⟨o,keep c o (I.cne x c e) hc nch ho (I.freeC x c e),hd⟩
 refine⟨I.ok,I.os,hg,⟨λ b o e n hb hx=>?_,λ b o e n hb hx=>?_,λ b o e n hx=>?_,λ b o e hx=>?_,λ b xs e=>tups b xs (I.base.tups b xs e),λ b o xs e=>frzs b o xs (I.base.frzs b o xs e),λ b ps e=>?_⟩,?_,λ x c e=>?_,?_,λ x c e=>?_,λ p hp=>?_,hok,I.len⟩
 ·exact keep b o (neL b o e) hb (neC b o e hx) (I.base.keep b o e n hb hx) (I.base.free b o e n hx)
 ·obtain⟨sl,e1⟩:=I.base.slot b o e n hb hx
  obtain⟨sl',e2⟩:=slot b _ (neL b o e) hb (neC b o e hx) e1 (I.base.free b o e n hx)
  exact⟨sl',e2⟩
 ·obtain⟨o',e1⟩:=I.base.there b o e hx
  exact free b o' (neC b o e hx) e1 (I.base.free b o e n hx)
 ·obtain⟨o',e1⟩:=I.base.there b o e hx
  exact there b o' (neC b o e hx) e1
 ·obtain⟨m1,e1⟩:=I.base.tbls b ps e
  obtain⟨m2,e2⟩:=tbls b _ e1
  exact⟨m1++m2,by rw[e2,Array.append_assoc]⟩
 ·obtain⟨m,hn,hl⟩:=I.loc
  refine⟨m,ns m hn,λ i x v e1 e2 e3=>?_⟩
  obtain⟨u,r,l⟩:=hl i x v e1 e2 e3
  refine⟨u,r,?_⟩
  rcases l with l |⟨k,c,e,z⟩
  ·exact .inl l
  ·exact .inr ⟨k,c,e,cellK x c e _ z⟩
 ·obtain⟨v,z⟩:=I.cell x c e
  exact⟨v,cellK x c e v z⟩
 ·obtain⟨m,⟨o,_,_,ho,_⟩,_⟩:=I.loc
  exact free _ o (λ z=>(hch _ z).2.1 rfl) ho I.free
 ·obtain⟨v,o,ho,hd⟩:=I.cell x c e
  exact free c o (λ z=>(hch c z).2.2.1 x c e rfl) ho (I.freeC x c e)
 ·obtain⟨e,n,ne,nf,d⟩:=I.pin p hp
  have nch:p.1∉ch:=λ z=>(hch p.1 z).2.2.2 p hp rfl
  exact⟨keep p.1 p.2 ne nf nch e n,free p.1 p.2 nch e n,ne,nf,d⟩
theorem Inv.un {t':Nat} (I:Inv X pins σ H s) (u:Un X.fs [] H H' s.heap h') (hok:HOk X.prog X.w H' h'):Inv X pins σ H' {s with heap:=h',toks:=t'}:=by
 obtain⟨m,⟨o,es,ep,ho,r⟩,_⟩:=id I.loc
 obtain⟨sl,hL⟩:=u.any ho I.free (by simp)
 exact I.step (g':=s.gens) (d':=s.drawn) (ch:=[]) (λ Z z=>nomatch z) (λ b o Z hb Z e n=>u.keep b o e n hb (by simp)) (λ b o Z hb Z e n=>u.slot b o e n hb (by simp)) (λ b o Z e n=>u.free b o e n (by simp)) (λ b o Z e=>u.there b o e (by simp)) u.tups u.frzs u.tbls (λ m' hm=>by
  obtain⟨o',es',ep',ho',r'⟩:=hm
  rw[ho] at ho';(injection ho' with aD;subst aD)
  exact⟨_,es',ep',hL,r'⟩) hok I.bare
theorem Inv.call {g':Array GenState} {t':Nat} {d':Drawn} {ch:List Addr} (I:Inv X pins σ H s) (u:Un (frs X.stack) ch H H' s.heap h') (hok:HOk X.prog X.w H' h') (hg:AllBare g')
  (hch:∀b∈ch,(b∈X.ex\/X.s₀.heap.objs.size<=b)/\b≠X.env.locals/\(∀x c,X.env.cells.lookup x=some c->c≠b)/\∀p∈X.pn++pins,p.1≠b):
  Inv X pins σ H' {s with heap:=h',gens:=g',drawn:=d',toks:=t'}:=by
 obtain⟨m,⟨o,es,ep,ho,r⟩,_⟩:=id I.loc
 obtain⟨sl,hL⟩:=u.any ho I.free λ z=>(hch _ z).2.1 rfl
 exact I.step (ch:=ch) hch (λ b o hL hb hc e n=>u.keep b o e n (λ z=>(List.mem_cons.mp (I.stkSub b z)).elim hL hb) hc) (λ b o Z Z hc e n=>u.any e n hc) (λ b o hc e n=>u.free b o e n hc) (λ b o hc e=>u.there b o e hc) u.tups u.frzs u.tbls (λ m' hm=>by
  obtain⟨o',es',ep',ho',r'⟩:=hm
  rw[ho] at ho';(injection ho' with aD;subst aD)
  exact⟨_,es',ep',hL,r'⟩) hok hg
theorem Inv.turned {t':Nat} {it:Addr} (I:Inv X pins σ H s) (k:∀b o,b≠it->s.heap.get? b=some o->h'.get? b=some o) (hn:H it=none) (hL:it≠X.env.locals)
  (h1:it∈X.ex\/X.s₀.heap.objs.size<=it) (h2:∀x c,X.env.cells.lookup x=some c->c≠it) (h3:∀p∈X.pn++pins,p.1≠it):Inv X pins σ H {s with heap:=h',toks:=t'}:=by
 have nit:∀b u,H b=some u->b≠it:=λ b u e z=>by rw[z,hn] at e;injection e
 refine I.step (g':=s.gens) (d':=s.drawn) (ch:=[it]) (λ b hb=>?_) (λ b o Z Z hc e Z=>k b o (λ z=>hc (by simp[z])) e) (λ b o Z Z hc e Z=>⟨o.slots,k b o (λ z=>hc (by simp[z])) e⟩) (λ Z Z Z Z n=>n)
  (λ b o hc e=>⟨o,k b o (λ z=>hc (by simp[z])) e⟩) (λ Z Z e=>e) (λ Z Z Z e=>e) (λ b ps e=>⟨#[],by rw[e];simp⟩) (λ m hm=>?_) (λ b u e=>?_) I.bare
 ·have e:b=it:=by simpa using hb
  subst e
  exact⟨h1,hL,h2,h3⟩
 ·obtain⟨o,es,ep,ho,r⟩:=hm
  exact⟨o,es,ep,k _ o (Ne.symm hL) ho,r⟩
 ·refine (I.hok b u e).stay (λ c v hc q=>k c v ?_ q) (λ Z q=>q) (λ Z Z q=>q) λ Z Z Z Z q=>q
  rcases hc with z |z
  ·rw[z];exact nit b u e
  ·exact nit c _ z
theorem Inv.tok (I:Inv X pins σ H s) (t:Nat):Inv X pins σ H {s with toks:=t}:=I.un (h':=s.heap) (t':=t) Un.refl I.hok
theorem Inv.kept {t':Nat} (I:Inv X pins σ H s) (k:∀b u,s.heap.get? b=some u->h'.get? b=some u):Inv X pins σ H {s with heap:=h',toks:=t'}:=I.un (Un.kept k) (I.hok.kept k)
theorem Inv.laid {a:Addr} {o:HO} {t':Nat} (I:Inv X pins σ H s) (k:∀b u,s.heap.get? b=some u->h'.get? b=some u) (hp:s.heap.objs.size<=a) (new:ObjOk X.prog X.w (upd H a o) h' a o):
  Inv X pins σ (upd H a o) {s with heap:=h',toks:=t'}:=I.un (Un.laid k hp (I.hok.fresh hp)) (I.hok.laid k hp new)
theorem Inv.write {x e:Addr} {o:HO} {t':Nat} (I:Inv X pins σ H s) (mu:Mut (H x)) (he:e=x\/H e=some (.own x)) (k:∀b u,b≠e->s.heap.get? b=some u->h'.get? b=some u) (heo:∃u,h'.get? e=some u)
  (new:ObjOk X.prog X.w (upd H x o) h' x o):Inv X pins σ (upd H x o) {s with heap:=h',toks:=t'}:=I.un (Un.write mu he k heo) (I.hok.write mu he k heo new)
theorem Inv.pins_of {pins':List (Addr×Obj)} (I:Inv X pins σ H s) (h:∀p∈pins',s.heap.get? p.1=some p.2/\H p.1=none/\p.1≠X.env.locals/\p.1∉X.fs/\∀v,p.2.data≠.cell v):Inv X pins' σ H s:=
 ⟨I.ok,I.os,I.bare,I.base,I.loc,I.cell,I.free,I.freeC,λ p hp=>(List.mem_append.mp hp).elim (λ z=>I.pin p (List.mem_append_left _ z)) (h p),I.hok,I.len⟩
theorem nodup_ix {N:List Str} (hN:N.Nodup) {i j:Nat} {x:Str} (a:N[i]?=some x) (b:N[j]?=some x):i=j:=by
 obtain⟨h1,e1⟩:=z1b a
 obtain⟨h2,e2⟩:=z1b b
 exact (List.getElem_inj hN).mp (e1.trans e2.symm)
theorem store_ok2 {M:Model} {A:Around} {E:Value->Shared->Prop} {i:Nat} {x:Str} {v:V} {u:Value} {Q:Unit->Shared->Prop} (I:Inv X pins σ H s) (hN:X.N.Nodup) (hi:X.N[i]?=some x) (hx:Loc X.env.scope x) (r:RelV v u)
  (h:∀s',Inv X pins (σ.set i (some v)) H s'->(∃a,Heap.SameBut a s.heap s'.heap/\(a=X.env.locals\/X.env.cells.lookup x=some a))->Q () s') (hf:autoParam (X.fn x=true\/X.env.scope.names.lookup x=some .local) ap6._auto_1):wpAny M A (storeName X.env x u) Q E s:=by
 obtain⟨m,hn,hl⟩:=id I.loc
 have hcls:(X.env.scope.kind == .class || (X.env.scope.kind == .module && X.env.locals !=X.env.globals))=false:=by rw[I.ok.kind];rfl
 have hiσ:i < σ.length:=by rw[I.len];exact (z1b hi).1
 have cne:=I.cne
 have tracked:∀{a:Addr} {h':Heap},(∃o,s.heap.get? a=some o/\H a=none)->Heap.SameBut a s.heap h'->HOk X.prog X.w H h':=λ {a h'} ha hs b ob e=>by
  obtain⟨_,_,hfree⟩:=ha
  refine (I.hok b ob e).stay (λ c w' hc q=>(hs.2 c ?_).trans q) (λ Z q=>q) (λ Z Z q=>q) λ Z Z Z Z q=>q
  rintro rfl
  rcases hc with rfl |hc
  ·rw[hfree] at e;injection e
  ·rw[hfree] at hc;injection hc
 rcases hx with hk |hk
 ·refine wpAny_storeName_local hk hn (λ h' hn' hs=>?_) hcls
  obtain⟨oL,_,_,hoL,_⟩:=id hn
  refine h _ ⟨I.ok,I.os,I.bare,⟨λ b o e n hb hx=>?_,λ b o e n hb hx=>?_,I.base.free,λ b o e hx=>?_,I.base.tups,I.base.frzs,I.base.tbls⟩,⟨_,hn',λ j y v' e1 e2 e3=>?_⟩,λ y c e=>?_,I.free,I.freeC,λ p hp=>?_,tracked ⟨oL,hoL,I.free⟩ hs,by simpa using I.len⟩ ⟨_,hs,.inl rfl⟩
  ·exact (hs.2 b (Nat.ne_of_lt (z0d (z2c e) I.ok.above))).trans (I.base.keep b o e n hb hx)
  ·obtain⟨sl,e1⟩:=I.base.slot b o e n hb hx
   exact⟨sl,(hs.2 b (Nat.ne_of_lt (z0d (z2c e) I.ok.above))).trans e1⟩
  ·obtain⟨o',e1⟩:=I.base.there b o e hx
   exact⟨o',(hs.2 b (Nat.ne_of_lt (z0d (z2c e) I.ok.above))).trans e1⟩
  ·by_cases hj:j=i
   ·subst hj
    rw[hi] at e1;(injection e1 with aD;subst aD)
    rw[z2a hiσ] at e2
    (injection e2 with aD;injection aD with cZ;subst cZ)
    exact⟨u,r,.inl ⟨hk,by simp⟩⟩
   ·rw[z1e (Ne.symm hj)] at e2
    obtain⟨u',r',q⟩:=hl j y v' e1 e2 e3
    refine⟨u',r',?_⟩
    rcases q with⟨k,e⟩ |⟨k,c,e,z⟩
    ·refine .inl ⟨k,?_⟩
     have:y≠x:=λ e=>hj (nodup_ix hN e1 (e▸hi))
     simp[this,e]
    ·exact .inr ⟨k,c,e,z.sameBut hs (cne y c e)⟩
  ·obtain⟨w',z⟩:=I.cell y c e
   exact⟨w',z.sameBut hs (cne y c e)⟩
  ·obtain⟨e,n,ne,nf,d⟩:=I.pin p hp
   exact⟨(hs.2 p.1 ne).trans e,n,ne,nf,d⟩
 ·have hfn:X.fn x=true:=by
   rcases hf with z |z
   ·exact z
   ·rw[z] at hk;(injection hk with aD;injection aD)
  obtain⟨c,hc⟩:=I.ok.has x (.inl hk)
  obtain⟨w',z⟩:=I.cell x c hc
  refine wpAny_storeName_cell I.ok.kind hk hc z (λ h' hc' hs=>?_)
  obtain⟨oc,hoc,hocd⟩:=id z
  refine h {s with heap:=h'} ⟨I.ok,I.os,I.bare,⟨λ b o e n hb hx=>?_,λ b o e n hb hx=>?_,I.base.free,λ b o e hx=>?_,I.base.tups,I.base.frzs,I.base.tbls⟩,⟨m,hn.sameBut hs (Ne.symm (cne x c hc)),λ j y v' e1 e2 e3=>?_⟩,λ y c' e=>?_,I.free,I.freeC,λ p hp=>?_,tracked ⟨oc,hoc,I.freeC x c hc⟩ hs,by simpa using I.len⟩ ⟨c,hs,.inr hc⟩
  ·exact (hs.2 b (Nat.ne_of_lt (z0d (z2c e) (I.ok.cab x c hfn hc)))).trans (I.base.keep b o e n hb hx)
  ·obtain⟨sl,e1⟩:=I.base.slot b o e n hb hx
   exact⟨sl,(hs.2 b (Nat.ne_of_lt (z0d (z2c e) (I.ok.cab x c hfn hc)))).trans e1⟩
  ·obtain⟨o',e1⟩:=I.base.there b o e hx
   exact⟨o',(hs.2 b (Nat.ne_of_lt (z0d (z2c e) (I.ok.cab x c hfn hc)))).trans e1⟩
  ·by_cases hj:j=i
   ·subst hj
    rw[hi] at e1;(injection e1 with aD;subst aD)
    rw[z2a hiσ] at e2
    (injection e2 with aD;injection aD with cZ;subst cZ)
    exact⟨u,r,.inr ⟨.inl hk,c,hc,hc'⟩⟩
   ·rw[z1e (Ne.symm hj)] at e2
    obtain⟨u',r',q⟩:=hl j y v' e1 e2 e3
    refine⟨u',r',?_⟩
    rcases q with q |⟨k,c',e,z'⟩
    ·exact .inl q
    ·refine .inr ⟨k,c',e,z'.sameBut hs ?_⟩
     rintro rfl
     exact hj (nodup_ix hN e1 (I.ok.inj _ _ _ e hc▸hi))
  ·by_cases hcc:c'=c
   ·subst hcc;exact⟨_,hc'⟩
   ·obtain⟨w2,z2⟩:=I.cell y c' e
    exact⟨w2,z2.sameBut hs hcc⟩
  ·obtain⟨e,n,ne,nf,d⟩:=I.pin p hp
   refine⟨(hs.2 p.1 ?_).trans e,n,ne,nf,d⟩
   intro q
   rw[q,hoc] at e
   have q':oc=p.2:=Option.some.inj e
   exact d w' (by rw[<-q'];exact hocd)
theorem store_ok {M:Model} {A:Around} {E:Value->Shared->Prop} {i:Nat} {x:Str} {v:V} {u:Value} {Q:Unit->Shared->Prop} (I:Inv X pins σ H s) (hN:X.N.Nodup) (hi:X.N[i]?=some x) (hx:Loc X.env.scope x) (r:RelV v u)
  (h:∀s',Inv X pins (σ.set i (some v)) H s'->Q () s') (hf:autoParam (X.fn x=true\/X.env.scope.names.lookup x=some .local) ap6._auto_1):wpAny M A (storeName X.env x u) Q E s:=
 store_ok2 I hN hi hx r (λ s' I' Z=>h s' I') hf
theorem Inv.call' {s':Shared} {ch:List Addr} (I:Inv X pins σ H s) (ho:s'.os=s.os) (u:Un (frs X.stack) ch H H' s.heap s'.heap) (hok:HOk X.prog X.w H' s'.heap) (hg:AllBare s'.gens)
  (hch:∀b∈ch,(b∈X.ex\/X.s₀.heap.objs.size<=b)/\b≠X.env.locals/\(∀x c,X.env.cells.lookup x=some c->c≠b)/\∀p∈X.pn++pins,p.1≠b):Inv X pins σ H' s':=by
 obtain⟨h',g',d',t',o'⟩:=s'
 have e:o'=s.os:=ho
 subst e
 exact I.call (g':=g') (t':=t') (d':=d') u hok hg hch
end
noncomputable abbrev XK:=Value->Option Addr->Hp->Prop
noncomputable abbrev St:=List (Option V)
noncomputable abbrev VK:=V->Hp->Prop
noncomputable abbrev TE:=St->Hp->VK->Prop
noncomputable abbrev TT:=St->Hp->(Bool->Hp->Prop)->Prop
noncomputable abbrev TA:=St->Hp->(List V->Hp->Prop)->Prop
structure Ends where
 nx:St->Hp->Prop
 rt:VK
 bk:St->Hp->Prop:=λ Z Z=>False
 ct:St->Hp->Prop:=λ Z Z=>False
noncomputable abbrev TS:=Ends->St->Hp->Prop
inductive EP (X:Cx) (pins:List (Addr×Obj)) (σ:St) (Q:VK) (u:Value) (s':Shared):Prop
 |mk (v:V) (H':Hp) (I:Inv X pins σ H' s') (r:RelV v u) (q:Q v H'):EP X pins σ Q u s'
inductive TP (X:Cx) (pins:List (Addr×Obj)) (σ:St) (Q:Bool->Hp->Prop) (b:Bool) (s':Shared):Prop
 |mk (H':Hp) (I:Inv X pins σ H' s') (q:Q b H'):TP X pins σ Q b s'
inductive AP (X:Cx) (pins:List (Addr×Obj)) (σ:St) (Q:List V->Hp->Prop) (us:List Value) (s':Shared):Prop
 |mk (vs:List V) (H':Hp) (I:Inv X pins σ H' s') (r:Vals vs us) (q:Q vs H'):AP X pins σ Q us s'
inductive Zu (X:Cx) (pins:List (Addr×Obj)) (D:St->Hp->Prop) (s':Shared):Prop
 |mk (σ':St) (H':Hp) (I:Inv X pins σ' H' s') (d:D σ' H'):Zu X pins D s'
inductive SPr (X:Cx) (pins:List (Addr×Obj)) (D:V->Hp->Prop) (u:Value) (s':Shared):Prop
 |mk (v:V) (σ':St) (H':Hp) (I:Inv X pins σ' H' s') (r:RelV v u) (d:D v H'):SPr X pins D u s'
def SP (X:Cx) (pins:List (Addr×Obj)) (D:Ends) (f:Flow) (s':Shared):Prop:=
 match f with
 | .next=>Zu X pins D.nx s'
 | .brk=>Zu X pins D.bk s'
 | .cont=>Zu X pins D.ct s'
 | .ret u=>SPr X pins D.rt u s'
noncomputable def PE (X:Cx) (e:Expr) (t:TE):Prop:=
 ∀(pins:List (Addr×Obj)) (s:Shared) (σ:St) (H:Hp) (Q:VK),Inv X pins σ H s->t σ H Q->wpAny (model X.prog X.w) X.A (eval e X.env) (EP X pins σ Q) X.xe s
noncomputable def PT (X:Cx) (e:Expr) (t:TT):Prop:=
 ∀(pins:List (Addr×Obj)) (s:Shared) (σ:St) (H:Hp) (Q:Bool->Hp->Prop),Inv X pins σ H s->t σ H Q->wpAny (model X.prog X.w) X.A (isTrue e X.env (eval e X.env)) (TP X pins σ Q) X.xe s
noncomputable def PW (X:Cx) (e:Expr) (t:TT):Prop:=
 ∀(whole:Sem Value) (pins:List (Addr×Obj)) (s:Shared) (σ:St) (H:Hp) (Q:Bool->Hp->Prop),Inv X pins σ H s->t σ H Q->wpAny (model X.prog X.w) X.A (isTrue e X.env whole) (TP X pins σ Q) X.xe s
noncomputable def PA (X:Cx) (es:List Expr) (t:TA):Prop:=
 ∀(pos:Pos) (pins:List (Addr×Obj)) (s:Shared) (σ:St) (H:Hp) (Q:List V->Hp->Prop),Inv X pins σ H s->t σ H Q->wpAny (model X.prog X.w) X.A (spliced (backTo pos (starEach es X.env))) (AP X pins σ Q) X.xe s
noncomputable def PS (X:Cx) (st:Stmt) (t:TS):Prop:=
 ∀(pins:List (Addr×Obj)) (s:Shared) (σ:St) (H:Hp) (D:Ends),Inv X pins σ H s->t D σ H->wpAny (model X.prog X.w) X.A (exec st X.env) (SP X pins D) X.xe s
noncomputable def PSs (X:Cx) (st:List Stmt) (t:TS):Prop:=
 ∀(pins:List (Addr×Obj)) (s:Shared) (σ:St) (H:Hp) (D:Ends),Inv X pins σ H s->t D σ H->wpAny (model X.prog X.w) X.A (execs st X.env) (SP X pins D) X.xe s
theorem thn {α:Type} {t:Sem α} {Q Q':α->Shared->Prop} {M:Model} {A:Around} {E:Value->Shared->Prop} {s:Shared} (h:wpAny M A t Q E s) (hQ:∀a s,Q a s->Q' a s):wpAny M A t Q' E s:=wpAny_mono h hQ λ Z Z x=>x
section
variable {X:Cx}
theorem bin {a b:Expr} {ta tb:TE} (ha:PE X a ta) (hb:PE X b tb) {pins:List (Addr×Obj)} {s:Shared} {σ:St} {H:Hp} {R:V->V->Hp->Prop} (I:Inv X pins σ H s) (h:ta σ H λ x H1=>tb σ H1 λ y H2=>R x y H2)
  {α:Type} {Q:α->Shared->Prop} {f:Value->Value->Sem α}
  (hf:∀v u s2 x y H2,Inv X pins σ H2 s2->RelV x v->RelV y u->R x y H2->wpAny (model X.prog X.w) X.A (f v u) Q X.xe s2):
  wpAny (model X.prog X.w) X.A (eval a X.env) (λ v s₁=>wpAny (model X.prog X.w) X.A (eval b X.env) (λ u s₂=>wpAny (model X.prog X.w) X.A (f v u) Q X.xe s₂) X.xe s₁) X.xe s:=by
 refine thn (ha pins s σ H _ I h) λ v s1 bW=>?_
 obtain⟨x,H1,I1,r1,q1⟩:=bW
 refine thn (hb pins s1 σ H1 _ I1 q1) λ u s2 bW=>?_
 obtain⟨y,H2,I2,r2,q2⟩:=bW
 exact hf v u s2 x y H2 I2 r1 r2 q2
noncomputable def tVar (i:Nat):TE:=λ σ H Q=>∃v,σ[i]?=some (some v)/\Q v H
noncomputable def tC (v:V):TE:=λ Z H Q=>Q v H
theorem pe_var {i:Nat} {x:Str} {pos:Pos} (hN:X.N[i]?=some x) (hv:Vis X.env.scope x) (hd:autoParam ((x ==("__debug__" :Str))=false) eY._auto_1) (hcd:autoParam ((x ==("__classdict__" :Str))=false) eY._auto_1):PE X (.Name x pos) (tVar i):=by
 intro pins s σ H Q I h
 refine bc λ zQ=>?_
 obtain⟨v,e,h⟩:=h
 obtain⟨m,hn,hl⟩:=I.loc
 obtain⟨u,r,l⟩:=hl i x v hN e hv
 apply zQ;clear zQ
 have fin:EP X pins σ Q u s:=⟨v,H,I,r,h⟩
 refine bc λ zQ=>?_
 rcases l with⟨hk,hm⟩ |⟨hk,c,hc,hcell⟩
 ·apply zQ;clear zQ
  exact wpAny_Name (wpAny_loadName_local I.ok.kind hk hn hm fin) hd
 ·apply zQ;clear zQ
  refine bc λ zQ=>?_
  rcases hk with hk |hk
  ·apply zQ;clear zQ
   exact wpAny_Name (wpAny_loadName_cell I.ok.kind hk hc hcell fin) hd
  ·apply zQ;clear zQ
   exact wpAny_Name (wpAny_loadName_free I.ok.kind hk hc hcell fin hcd) hd
theorem pe_int {i j pos}:PE X (.Constant (.int i) j pos) (tC (.int i)):=λ Z Z Z H Z I h=>wpAny_Constant_int ⟨.int i,H,I.tok _,⟨_,rfl⟩,h⟩
theorem pe_bl {b j pos}:PE X (.Constant (.bool b) j pos) (tC (.bl b)):=λ Z Z Z H Z I h=>Constant_bool ⟨.bl b,H,I,rfl,h⟩
theorem pe_non {j pos}:PE X (.Constant .none j pos) (tC .non):=λ Z Z Z H Z I h=>Constant_none ⟨.non,H,I,rfl,h⟩
theorem pe_str {x j pos}:PE X (.Constant (.str x) j pos) (tC (.str x)):=λ Z Z Z H Z I h=>Calls.Constant_str ⟨.str x,H,I.tok _,⟨_,rfl⟩,h⟩
noncomputable def Gl (X:Cx) (x:Str):Prop:=X.env.kindOf x=some .globalImplicit
theorem ld_glob {E:Value->Shared->Prop} {pins:List (Addr×Obj)} {s:Shared} {σ:St} {H:Hp} {x:Str} {u:Value} {pos:Pos} {Q:Value->Shared->Prop} (I:Inv X pins σ H s) (hg:Gl X x) (hm:X.mg x=some u) (h:Q u s)
  (hd:autoParam ((x ==("__debug__" :Str))=false) eY._auto_1):wpAny (model X.prog X.w) X.A (eval (.Name x pos) X.env) Q E s:=
 Calls.Name_function_global I.ok.kind hg (Calls.loadGlobal_global (by rw[I.ok.glob];exact I.mod.glob.keeps I.bk) hm h) hd
theorem ld_blt {E:Value->Shared->Prop} {pins:List (Addr×Obj)} {s:Shared} {σ:St} {H:Hp} {x:Str} {u:Value} {pos:Pos} {Q:Value->Shared->Prop} (I:Inv X pins σ H s) (hg:Gl X x) (hm:X.mg x=none) (hv:bootBuiltins x=some u) (h:Q u s)
  (hn:autoParam (x≠"__name__") eY._auto_1) (hd:autoParam ((x ==("__debug__" :Str))=false) eY._auto_1):wpAny (model X.prog X.w) X.A (eval (.Name x pos) X.env) Q E s:=by
 obtain⟨mb,h1,h2⟩:=I.mod.blt
 exact Calls.Name_function_global I.ok.kind hg (Calls.loadGlobal_builtin (by rw[I.ok.glob];exact I.mod.glob.keeps I.bk) hm (by rw[I.ok.blt];exact h1.keeps I.bk) ((h2 x hn).trans hv) h) hd
theorem pe_glob {x:Str} {v:V} {u:Value} {pos:Pos} (hg:Gl X x) (hm:X.mg x=some u) (r:RelV v u) (hd:autoParam ((x ==("__debug__" :Str))=false) eY._auto_1):PE X (.Name x pos) (tC v):=
 λ Z Z Z H Z I h=>ld_glob I hg hm ⟨v,H,I,r,h⟩ hd
theorem pe_bltn {x:Str} {v:V} {u:Value} {pos:Pos} (hg:Gl X x) (hm:X.mg x=none) (hv:bootBuiltins x=some u) (r:RelV v u) (hn:autoParam (x≠"__name__") eY._auto_1) (hd:autoParam ((x ==("__debug__" :Str))=false) eY._auto_1):PE X (.Name x pos) (tC v):=
 λ Z Z Z H Z I h=>ld_blt I hg hm hv ⟨v,H,I,r,h⟩ hn hd
variable {a b:Expr} {ta tb:TE} {pos:Pos}
noncomputable def PC (X:Cx) (op:CmpOp) (a b:Expr) (t:TE):Prop:=
 ∀ (pins:List (Addr×Obj)) (s:Shared) (σ:St) (H:Hp) (Q:VK),Inv X pins σ H s->t σ H Q->
  wpAny (model X.prog X.w) X.A (eval a X.env) (λ v s₁=>wpAny (model X.prog X.w) X.A (eval b X.env) (λ u s₂=>wpAny (model X.prog X.w) X.A (compareOp op v u) (EP X pins σ Q) X.xe s₂) X.xe s₁) X.xe s
theorem nobehind (b:Expr) {op:CmpOp} (h:op≠.In) (h2:op≠.NotIn):behindInMarks op b=false:=by
 have e1:(op ==CmpOp.In)=false:=by cases op <;> first |rfl |exact absurd rfl h
 have e2:(op ==CmpOp.NotIn)=false:=by cases op <;> first |rfl |exact absurd rfl h2
 cases b with
 |Set elts k _=>show (k ==0 && (op == .In || op == .NotIn) && elts.all (constantsAlone 8))=false;rw[e1,e2,Bool.or_false,Bool.and_false,Bool.false_and]
 |_=>rfl
noncomputable def tB (t:TE):TT:=λ σ H Q=>t σ H λ x H1=>∃c,x= .bl c/\Q c H1
theorem pt_cmp {op:CmpOp} {t:TE} (h:PC X op a b t) (h1:behindInMarks op b=false:=by first |exact nobehind _ (by decide) (by decide) |rfl):PT X (.Compare a [op] [b] pos) (tB t):=by
 intro pins s σ H Q I hw
 refine wpAny_isTrue_Compare1 (thn (h pins s σ H _ I hw) λ v s1 h1=>thn h1 λ u s2 h2=>thn h2 λ c s3 ⟨x,H1,I1,r1,q1⟩=>?_) h1
 obtain⟨d,rfl,q⟩:=q1
 obtain rfl:=r1
 exact wpAny_truthy_bool ⟨H1,I1,q⟩
theorem pt_val {e:Expr} {t:TE} (h:PE X e t) (he:autoParam (∀whole,isTrue e X.env whole=(do let v <-whole;standAt e.pos;holding [v] (truthy v))) Zr._auto_1):PT X e (tB t):=by
 intro pins s σ H Q I hw
 refine isTrue_plain (thn (h pins s σ H _ I hw) λ v s1 ⟨x,H1,I1,r1,q1⟩=>?_) (he _)
 obtain⟨d,rfl,q⟩:=q1
 obtain rfl:=r1
 exact wpAny_truthy_bool ⟨H1,I1,q⟩
variable {tA tB':TT} {rest:List Expr}
noncomputable def tAnd (t u:TT):TT:=λ σ H Q=>t σ H λ c H1=>if c=true then u σ H1 Q else Q false H1
noncomputable def tOr (t u:TT):TT:=λ σ H Q=>t σ H λ c H1=>if c=true then Q true H1 else u σ H1 Q
noncomputable def tNot (t:TT):TT:=λ σ H Q=>t σ H λ c H1=>Q (!c) H1
theorem pw_and1 (ha:PT X a tA):PW X (.BoolOp .And [a] pos) tA:=by
 intro wh pins s σ H Q I h
 refine isTrue_and (thn (ha pins s σ H Q I h) λ c s1 e=>?_)
 cases c with
 |true=>exact isTrue_and_nil e
 |false=>exact e
theorem pw_or1 (ha:PT X a tA):PW X (.BoolOp .Or [a] pos) tA:=by
 intro wh pins s σ H Q I h
 refine isTrue_or (thn (ha pins s σ H Q I h) λ c s1 e=>?_)
 cases c with
 |false=>exact isTrue_or_nil e
 |true=>exact e
theorem pw_and (ha:PT X a tA) (hb:PW X (.BoolOp .And (b::rest) pos) tB'):PW X (.BoolOp .And (a::b::rest) pos) (tAnd tA tB'):=by
 intro wh pins s σ H Q I h
 refine isTrue_and (thn (ha pins s σ H _ I h) λ c s1 bW=>?_)
 obtain⟨H1,I1,q1⟩:=bW
 cases c with
 |true=>exact hb wh pins s1 σ H1 Q I1 q1
 |false=>exact⟨H1,I1,q1⟩
theorem pw_or (ha:PT X a tA) (hb:PW X (.BoolOp .Or (b::rest) pos) tB'):PW X (.BoolOp .Or (a::b::rest) pos) (tOr tA tB'):=by
 intro wh pins s σ H Q I h
 refine isTrue_or (thn (ha pins s σ H _ I h) λ c s1 bW=>?_)
 obtain⟨H1,I1,q1⟩:=bW
 cases c with
 |true=>exact⟨H1,I1,q1⟩
 |false=>exact hb wh pins s1 σ H1 Q I1 q1
theorem pt_not (ha:PT X a tA):PT X (.UnaryOp .Not a pos) (tNot tA):=by
 intro pins s σ H Q I h
 refine isTrue_not (thn (ha pins s σ H (λ c H1=>Q (!c) H1) I h) λ c s1 hz=>?_)
 obtain⟨H1,I1,q1⟩:=hz
 exact⟨H1,I1,q1⟩
noncomputable def tAndV (ta tb:TE):TE:=λ σ H Q=>ta σ H λ x H1=>∃c,x= .bl c/\if c=true then tb σ H1 Q else Q (.bl false) H1
noncomputable def tNotV (ta:TE):TE:=λ σ H Q=>ta σ H λ x H1=>∃c,x= .bl c/\Q (.bl (!c)) H1
theorem pe_one {op} {t:TE} (h:PE X a t):PE X (.BoolOp op [a] pos) t:=λ pins s σ H Q I hw=>BoolOp_one (h pins s σ H Q I hw)
theorem pe_and (ha:PE X a ta) (hb:PE X (.BoolOp .And (b::rest) pos) tb):PE X (.BoolOp .And (a::b::rest) pos) (tAndV ta tb):=by
 intro pins s σ H Q I h
 refine BoolOp_and (thn (ha pins s σ H _ I h) λ v s1 bW=>?_)
 refine bc λ zQ=>?_
 obtain⟨x,H1,I1,r1,q1⟩:=bW
 obtain⟨c,rfl,q1⟩:=q1
 apply zQ;clear zQ
 obtain rfl:=r1
 refine wpAny_truthy_bool ?_
 refine bc λ zQ=>?_
 cases c with
 |true=>apply zQ;clear zQ;exact hb pins s1 σ H1 Q I1 q1
 |false=>apply zQ;clear zQ;exact⟨.bl false,H1,I1,rfl,q1⟩
theorem pe_not (ha:PE X a ta):PE X (.UnaryOp .Not a pos) (tNotV ta):=by
 intro pins s σ H Q I h
 refine UnaryOp_ (thn (ha pins s σ H _ I h) λ v s1 bW=>?_)
 obtain⟨x,H1,I1,r1,q1⟩:=bW
 obtain⟨c,rfl,q1⟩:=q1
 obtain rfl:=r1
 exact not_of (wpAny_truthy_bool ⟨.bl (!c),H1,I1,rfl,q1⟩)
noncomputable def tIf (t:TT) (ta tb:TE):TE:=λ σ H Q=>t σ H λ c H1=>if c=true then ta σ H1 Q else tb σ H1 Q
theorem pe_ifExp {c:Expr} (hc:PT X c tA) (ha:PE X a ta) (hb:PE X b tb):PE X (.IfExp c a b pos) (tIf tA ta tb):=by
 intro pins s σ H Q I h
 refine wpAny_IfExp (thn (hc pins s σ H _ I h) λ d s1 bW=>?_)
 obtain⟨H1,I1,q1⟩:=bW
 cases d with
 |true=>exact ha pins s1 σ H1 Q I1 q1
 |false=>exact hb pins s1 σ H1 Q I1 q1
end
noncomputable def SqL (K:PySem.W.Frag) (H:Hp) (a:Addr) (xs:List V):Prop:=
 Rd H a (.lst xs)\/
  ∃(o:Obj) (its:Array Value) (n:Nat),K.lookup a=some o/\o.cls= .type "list"/\o.dict=none/\o.data= .seq its n/\its.size<=sizeLine/\Vals xs its.toList
noncomputable def SqT (K:PySem.W.Frag) (H:Hp) (a:Addr) (xs:List V):Prop:=
 Rd H a (.tup xs)\/
  ∃(o:Obj) (its:Array Value) (n:Nat),K.lookup a=some o/\o.cls= .type "tuple"/\o.data= .seq its n/\its.size<=sizeLine/\Vals xs its.toList
noncomputable def absV:Value->Option V
 | .none=>some .non
 | .bool b=>some (.bl b)
 | .int i _=>some (.int i)
 | .str x _=>some (.str x)
 | .bytes b _=>some (.byt b)
 | .float b _=>some (.flt b)
 | .ref a=>some (.ref a)
 | .type n=>some (.ty n)
 |_=>none
theorem RelV.abs {x:V} {u:Value} (r:RelV x u):absV u=some x:=by
 cases x with
 |non=>obtain rfl:=r;rfl
 |bl _=>obtain rfl:=r;rfl
 |int _=>obtain⟨t,rfl⟩:=r;rfl
 |str _=>obtain⟨t,rfl⟩:=r;rfl
 |byt _=>obtain⟨t,rfl⟩:=r;rfl
 |flt _=>obtain⟨t,rfl⟩:=r;rfl
 |ref _=>obtain rfl:=r;rfl
 |ty _=>obtain rfl:=r;rfl
theorem RelV.inj {x y:V} {u:Value} (r:RelV x u) (q:RelV y u):x=y:=Option.some.inj (r.abs.symm.trans q.abs)
theorem Vals.inj:∀{xs ys:List V} {us:List Value},Vals xs us->Vals ys us->xs=ys
 :=by
 intro xs ys us h
 induction h generalizing ys with
 |nil=>intro q;cases q;rfl
 |cons r t ih=>intro q;cases q with |cons r' t'=>rw[r.inj r',ih t']
section
variable {X:Cx} {pins:List (Addr×Obj)} {σ:St} {H:Hp} {s:Shared} {a:Addr} {xs ys:List V}
theorem SqL.of {K:PySem.W.Frag} (h:H a=some (.lst xs)):SqL K H a xs:= .inl (.inl h)
theorem SqT.of {K:PySem.W.Frag} (h:H a=some (.tup xs)):SqT K H a xs:= .inl (.inl h)
inductive ILi (xs:List V) (h:Heap) (a:Addr):Prop
 |mk (its:List Value) (r:Vals xs its) (p:PlainL h a its.toArray) (z:xs.length<=sizeLine)
inductive ITu (xs:List V) (h:Heap) (a:Addr):Prop
 |mk (its:List Value) (r:Vals xs its) (p:IsTup h a its.toArray) (z:xs.length<=sizeLine)
theorem Inv.list (I:Inv X pins σ H s) (h:SqL X.K H a xs):ILi xs s.heap a:=by
 rcases h with h |⟨o,its,n,hk,hc,hd,hs,hz,r⟩
 ·obtain⟨z,its,n,r,e⟩:=h.ok I.hok
  exact⟨its,r,⟨_,n,e,rfl,rfl,rfl⟩,z⟩
 ·refine⟨its.toList,r,⟨o,n,I.kIn a o hk,hc,hd,by simpa using hs⟩,?_⟩
  have e:=r.length
  simp only[Array.length_toList] at e
  exact oq0 e hz
theorem Inv.tuple (I:Inv X pins σ H s) (h:SqT X.K H a xs):ITu xs s.heap a:=by
 rcases h with h |⟨o,its,n,hk,hc,hs,hz,r⟩
 ·obtain⟨z,its,r,p⟩:=h.ok I.hok
  exact⟨its,r,p,z⟩
 ·refine⟨its.toList,r,⟨o,I.kIn a o hk,hc,n,by simpa using hs⟩,?_⟩
  have e:=r.length
  simp only[Array.length_toList] at e
  exact oq0 e hz
theorem Inv.list_inj (I:Inv X pins σ H s) (h:SqL X.K H a xs) (h':SqL X.K H a ys):xs=ys:=by
 obtain⟨its,r,⟨o,n,e,_,_,d⟩,_⟩:=I.list h
 obtain⟨its',r',⟨o',n',e',_,_,d'⟩,_⟩:=I.list h'
 rw[e] at e';(injection e' with aD;subst aD)
 rw[d] at d'
 injection d' with d1 _
 have:its=its':=by simpa using congrArg Array.toList d1
 subst this
 exact r.inj r'
theorem Inv.tuple_inj (I:Inv X pins σ H s) (h:SqT X.K H a xs) (h':SqT X.K H a ys):xs=ys:=by
 obtain⟨its,r,⟨o,e,_,n,d⟩,_⟩:=I.tuple h
 obtain⟨its',r',⟨o',e',_,n',d'⟩,_⟩:=I.tuple h'
 rw[e] at e';(injection e' with aD;subst aD)
 rw[d] at d'
 injection d' with d1 _
 have:its=its':=by simpa using congrArg Array.toList d1
 subst this
 exact r.inj r'
end
noncomputable abbrev Cx.wish (X:Cx) (E:Value->Shared->Prop):Cx:={X with xe:=E}
noncomputable abbrev Cx.nox (X:Cx):Cx:=X.wish λ Z Z=>False
theorem Cx.Ok.wish {X:Cx} (ok:X.Ok) (E:Value->Shared->Prop):(X.wish E).Ok:=
 ⟨ok.mod,ok.kind,ok.glob,ok.blt,ok.above,ok.inj,ok.has,ok.cab,ok.hd,ok.frames,ok.stk,ok.exf,ok.bs,ok.bsz,ok.noex,ok.exfs,ok.funs,ok.frf⟩
theorem Cx.Ok.unwish {X:Cx} {E:Value->Shared->Prop} (ok:(X.wish E).Ok):X.Ok:=
 ⟨ok.mod,ok.kind,ok.glob,ok.blt,ok.above,ok.inj,ok.has,ok.cab,ok.hd,ok.frames,ok.stk,ok.exf,ok.bs,ok.bsz,ok.noex,ok.exfs,ok.funs,ok.frf⟩
section
variable {X:Cx} {pins:List (Addr×Obj)} {σ:St} {H:Hp} {s:Shared} {E:Value->Shared->Prop}
theorem Inv.wish (I:Inv X pins σ H s) (E:Value->Shared->Prop):Inv (X.wish E) pins σ H s:=⟨I.ok.wish E,I.os,I.bare,I.base,I.loc,I.cell,I.free,I.freeC,I.pin,I.hok,I.len⟩
theorem Inv.unwish (I:Inv (X.wish E) pins σ H s):Inv X pins σ H s:=⟨I.ok.unwish,I.os,I.bare,I.base,I.loc,I.cell,I.free,I.freeC,I.pin,I.hok,I.len⟩
theorem SP.unwish {D:Ends} {f:Flow} {s':Shared} (h:SP (X.wish E) pins D f s'):SP X pins D f s':=by
 cases f with
 |next=>obtain⟨σ',H',I,q⟩:=h;exact⟨σ',H',I.unwish,q⟩
 |brk=>obtain⟨σ',H',I,q⟩:=h;exact⟨σ',H',I.unwish,q⟩
 |cont=>obtain⟨σ',H',I,q⟩:=h;exact⟨σ',H',I.unwish,q⟩
 |ret u=>obtain⟨v,σ',H',I,r,q⟩:=h;exact⟨v,σ',H',I.unwish,r,q⟩
theorem PSs.nox {st:List Stmt} {t:TS} (h:PSs X.nox st t):PSs X st t:=λ pins s σ H D I hw=>
 wpAny_mono (h pins s σ H D (I.wish _) hw) (λ Z Z q=>q.unwish) λ Z Z z=>False.elim z
end
section
variable {X:Cx} {st:Stmt} {rest:List Stmt} {t u:TS} {e:Expr} {te:TE} {pos:Pos}
noncomputable def tNext:TS:=λ D σ H=>D.nx σ H
noncomputable def tSeq (t u:TS):TS:=λ D σ H=>t {D with nx:=u D} σ H
theorem pss_nil:PSs X [] tNext:=λ Z Z σ H Z I h=>wpAny_execs_nil ⟨σ,H,I,h⟩
theorem pss_cons (h1:PS X st t) (h2:PSs X rest u):PSs X (st::rest) (tSeq t u):=by
 intro pins s σ H D I h
 refine wpAny_execs_cons (thn (h1 pins s σ H {D with nx:=u D} I h) λ f s1 q=>?_)
 cases f with
 | next=>
  obtain⟨σ',H',I',q⟩:=q
  exact h2 pins s1 σ' H' D I' q
 |ret v=>exact q
 |brk=>exact q
 |cont=>exact q
theorem pss_one (h1:PS X st t):PSs X [st] t:=by
 intro pins s σ H D I h
 refine wpAny_execs_cons (thn (h1 pins s σ H D I h) λ f s1 q=>?_)
 cases f with
 |next=>exact wpAny_execs_nil q
 |ret v=>exact q
 |brk=>exact q
 |cont=>exact q
theorem Inv.quiet {pins:List (Addr×Obj)} {σ:St} {H:Hp} {s:Shared} (I:Inv X pins σ H s):interactive X.env=false:=by simp[interactive,I.ok.kind]
noncomputable def tDrop (te:TE):TS:=λ D σ H=>te σ H λ Z H1=>D.nx σ H1
theorem ps_expr (he:PE X e te) (hs:autoParam (swapsWith e none pos.line X.env=pure false) bD._auto_1):PS X (.Expr e pos) (tDrop te):=by
 intro pins s σ H D I h
 exact wpAny_Expr_any (thn (he pins s σ H _ I h) λ v s1 ⟨x,H1,I1,r1,q1⟩=>⟨σ,H1,I1,q1⟩) I.quiet hs
noncomputable def tRet (te:TE):TS:=λ D σ H=>te σ H D.rt
theorem ps_ret (he:PE X e te):PS X (.Return (some e) pos) (tRet te):=by
 intro pins s σ H D I h
 exact wpAny_Return_some (thn (he pins s σ H _ I h) λ v s1 ⟨x,H1,I1,r1,q1⟩=>⟨x,σ,H1,I1,r1,q1⟩)
noncomputable def tIfS (c:TT) (t u:TS):TS:=λ D σ H=>c σ H λ b H1=>if b=true then t D σ H1 else u D σ H1
theorem ps_if {c:Expr} {a b:List Stmt} {tc:TT} (hc:PT X c tc) (ha:PSs X a t) (hb:PSs X b u):PS X (.If c a b pos) (tIfS tc t u):=by
 intro pins s σ H D I h
 refine wpAny_If (thn (hc pins s σ H _ I h) λ d s1 bW=>?_)
 obtain⟨H1,I1,q1⟩:=bW
 cases d with
 |true=>exact ha pins s1 σ H1 D I1 q1
 |false=>exact hb pins s1 σ H1 D I1 q1
end
noncomputable abbrev TG:=V->St->Hp->(St->Hp->Prop)->Prop
noncomputable abbrev TGs:=List V->St->Hp->(St->Hp->Prop)->Prop
noncomputable def PG (X:Cx) (target:Expr) (t:TG):Prop:=
 ∀ (pins:List (Addr×Obj)) (s:Shared) (σ:St) (H:Hp) (v:V) (u:Value) (Q:St->Hp->Prop),Inv X pins σ H s->RelV v u->t v σ H Q->
  wpAny (model X.prog X.w) X.A (assign target X.env u) (λ Z s'=>Zu X pins Q s') X.xe s
noncomputable def PGs (X:Cx) (ts:List Expr) (t:TGs):Prop:=
 ∀ (pins:List (Addr×Obj)) (s:Shared) (σ:St) (H:Hp) (vs:List V) (us:List Value) (Q:St->Hp->Prop),Inv X pins σ H s->Vals vs us->t vs σ H Q->
  wpAny (model X.prog X.w) X.A (assignInOrder ((assignEach ts X.env).map (·.2)) us) (λ Z s'=>Zu X pins Q s') X.xe s
noncomputable abbrev TIp:=V->V->Hp->VK->Prop
noncomputable def PIp (X:Cx) (op:Operator) (t:TIp):Prop:=
 ∀ (pins:List (Addr×Obj)) (s:Shared) (σ:St) (H:Hp) (x y:V) (v u:Value) (Q:VK),Inv X pins σ H s->RelV x v->RelV y u->t x y H Q->
  wpAny (model X.prog X.w) X.A (inplaceOp op v u) (EP X pins σ Q) X.xe s
section
variable {X:Cx} {pos:Pos}
noncomputable def gName (i:Nat):TG:=λ v σ H Q=>Q (σ.set i (some v)) H
theorem pg_name {i:Nat} {x:Str} (hN:X.N.Nodup) (hi:X.N[i]?=some x) (hx:Loc X.env.scope x) (hf:autoParam (X.fn x=true\/X.env.scope.names.lookup x=some .local) ap6._auto_1):PG X (.Name x pos) (gName i):=by
 intro pins s σ H v u Q I r h
 exact wpAny_assign_Name (store_ok I hN hi hx r (λ s' I'=>⟨_,H,I',h⟩) hf)
noncomputable def gNil:TGs:=λ vs σ H Q=>vs=[]/\Q σ H
noncomputable def gCons (t:TG) (u:TGs):TGs:=λ vs σ H Q=>∃v r,vs=v::r/\t v σ H λ σ' H'=>u r σ' H' Q
theorem pgs_nil:PGs X [] gNil:=by
 intro pins s σ H vs us Q I r h
 obtain⟨e,h⟩:=h
 subst e
 cases r
 exact assignInOrder_nil ⟨σ,H,I,h⟩
theorem pgs_cons {e:Expr} {es:List Expr} {t:TG} {u:TGs} (h1:PG X e t) (h2:PGs X es u)
  (hs:autoParam ((assignEach (e::es) X.env).map (·.2)=assign e X.env::(assignEach es X.env).map (·.2)) bD._auto_1):PGs X (e::es) (gCons t u):=by
 intro pins s σ H vs us Q I r h
 obtain⟨v,vr,e1,h⟩:=h
 subst e1
 cases r with
 | cons r rr=>
  rw[hs]
  refine assignInOrder_cons (thn (h1 pins s σ H _ _ _ I r h) λ Z s1 bW=>?_)
  obtain⟨σ1,H1,I1,q1⟩:=bW
  exact h2 pins s1 σ1 H1 _ _ Q I1 rr q1
noncomputable def gTup (K:PySem.W.Frag) (n:Nat) (t:TGs):TG:=λ v σ H Q=>∃a xs,v= .ref a/\SqT K H a xs/\xs.length=n/\t xs σ H Q
theorem pg_tup {es:List Expr} {k:Nat} {t:TGs} {n:Nat} (hc:X.calm=true) (h:PGs X es t)
  (hn:autoParam ((assignEach es X.env).length=n) bD._auto_1) (hst:autoParam ((assignEach es X.env).findIdx? (·.1)=none) bD._auto_1):PG X (.Tuple es k pos) (gTup X.K n t):=by
 intro pins s σ H v u Q I r hw
 obtain⟨a,xs,e1,hq,hl,hw⟩:=hw
 subst e1
 obtain rfl:=r
 obtain⟨its,rv,ht,hz⟩:=I.tuple hq
 refine assign_Tuple_tuple (I.ok.hd hc) ht (by simp[hn,<-hl,rv.length]) hst λ h' hx=>?_
 have I1:Inv X pins σ H {s with heap:=h'}:=I.kept (t':=s.toks) λ b o e=>hx b o (Nat.ne_of_lt (z2c e)) e
 exact h pins _ σ H xs _ Q I1 (by simpa using rv) hw
noncomputable def tAsg (te:TE) (g:TG):TS:=λ D σ H=>te σ H λ x H1=>g x σ H1 D.nx
theorem ps_asg {tg e:Expr} {te:TE} {g:TG} (he:PE X e te) (hg:PG X tg g) (hs:autoParam (swapsWithSole [tg] e pos.line X.env=pure false) bD._auto_1) (hw:autoParam (swappedStores [tg] e X.env=pure none) bD._auto_1)
  (h1:autoParam ((assignEach [tg] X.env).map (·.2)=[assign tg X.env]) bD._auto_1):PS X (.Assign [tg] e pos) (tAsg te g):=by
 intro pins s σ H D I h
 refine wpAny_Assign_stores (thn (he pins s σ H _ I h) λ v s1 ⟨x,H1,I1,r1,q1⟩=>?_) hs hw
 rw[h1]
 exact thn (hg pins s1 σ H1 x v _ I1 r1 q1) λ Z s2 q=>q
theorem ps_set {i:Nat} {x:Str} {e:Expr} {te:TE} {pos':Pos} (hN:X.N.Nodup) (hi:X.N[i]?=some x) (hx:Loc X.env.scope x) (he:PE X e te) (hs:autoParam (swapsWith e (some (.Name x pos')) pos.line X.env=pure false) bD._auto_1) (hf:autoParam (X.fn x=true\/X.env.scope.names.lookup x=some .local) ap6._auto_1):
  PS X (.Assign [.Name x pos'] e pos) (tAsg te (gName i)):=by
 intro pins s σ H D I h
 refine wpAny_Assign_Name (thn (he pins s σ H _ I h) λ v s1 ⟨y,H1,I1,r1,q1⟩=>?_) hs
 exact store_ok I1 hN hi hx r1 (λ s2 I2=>⟨_,H1,I2,q1⟩) hf
noncomputable def tAug (i:Nat) (te:TE) (ti:TIp):TS:=λ D σ H=>∃x,σ[i]?=some (some x)/\te σ H λ y H1=>ti x y H1 λ z H2=>D.nx (σ.set i (some z)) H2
theorem ps_aug {i:Nat} {x:Str} {e:Expr} {te:TE} {op:Operator} {ti:TIp} {pos':Pos} (hN:X.N.Nodup) (hi:X.N[i]?=some x) (hx:Loc X.env.scope x) (he:PE X e te) (ho:PIp X op ti) (hf:autoParam (X.fn x=true\/X.env.scope.names.lookup x=some .local) ap6._auto_1):
  PS X (.AugAssign (.Name x pos') op e pos) (tAug i te ti):=by
 intro pins s σ H D I h
 refine bc λ zQ=>?_
 obtain⟨v,e1,h⟩:=h
 obtain⟨m,hn,hl⟩:=I.loc
 apply zQ;clear zQ
 have vis:Vis X.env.scope x:=by rcases hx with k |k;exact .inl k;exact .inr (.inl k)
 refine bc λ zQ=>?_
 obtain⟨u,r,l⟩:=hl i x v hi e1 vis
 apply zQ;clear zQ
 refine wpAny_AugAssign_Name ?_
 have go:wpAny (model X.prog X.w) X.A (eval e X.env) (λ w s₂=>wpAny (model X.prog X.w) X.A (inplaceOp op u w) (λ r s₃=>wpAny (model X.prog X.w) X.A (storeName X.env x r) (λ Z=>SP X pins D .next) X.xe s₃) X.xe s₂) X.xe s:=by
  refine thn (he pins s σ H _ I h) λ w s1 bW=>?_
  refine bc λ zQ=>?_
  obtain⟨y,H1,I1,r1,q1⟩:=bW
  apply zQ;clear zQ
  refine thn (ho pins s1 σ H1 v y u w _ I1 r r1 q1) λ z s2 bW=>?_
  refine bc λ zQ=>?_
  obtain⟨zv,H2,I2,r2,q2⟩:=bW
  apply zQ;clear zQ
  exact store_ok I2 hN hi hx r2 (λ s3 I3=>⟨_,H2,I3,q2⟩) hf
 refine bc λ zQ=>?_
 rcases l with⟨hk,hm⟩ |⟨hk,c,hc,hcell⟩
 ·apply zQ;clear zQ
  exact wpAny_loadName_local I.ok.kind hk hn hm go
 ·apply zQ;clear zQ
  refine bc λ zQ=>?_
  rcases hk with hk |hk
  ·apply zQ;clear zQ
   exact wpAny_loadName_cell I.ok.kind hk hc hcell go
  ·apply zQ;clear zQ
   refine bc λ zQ=>?_
   rcases hx with k |k
   ·apply zQ;clear zQ
    have:X.env.scope.names.lookup x=some .free:=hk
    rw[k] at this;(injection this with aD;injection aD)
   ·apply zQ;clear zQ
    have:X.env.scope.names.lookup x=some .free:=hk
    rw[k] at this;(injection this with aD;injection aD)
end
section
variable {X:Cx} {pos:Pos}
noncomputable def tWhile (c:TT) (tb:TS):TS:=λ D σ H=>∃W:Nat->St->Hp->Prop,(∃m,W m σ H)/\∀m σ H,W m σ H->
 c σ H λ b H1=>if b=true then ∃N:St->Hp->Prop,(∀σ' H',N σ' H'->∃m',m' < m/\W m' σ' H')/\tb {D with nx:=N,ct:=N,bk:=D.nx} σ H1 else D.nx σ H1
theorem ps_while {c:Expr} {body:List Stmt} {tc:TT} {tb:TS} (hp:PassesOwn (model X.prog X.w) X.A X.env X.xe) (hc:PT X c tc) (hb:PSs X body tb):PS X (.While c body [] pos) (tWhile tc tb):=by
 intro pins s σ H D I h
 obtain⟨W,⟨m0,w0⟩,turn⟩:=h
 refine wpAny_While (codeAny_whileLoop (λ n s'=>∃σ' H',Inv X pins σ' H' s'/\W n σ' H') ?_ m0 ⟨σ,H,I,w0⟩)
 rintro n s1 ⟨σ1,H1,I1,w1⟩
 refine wpAny_passesOwn hp (thn (hc pins s1 σ1 H1 _ I1 (turn n σ1 H1 w1)) λ b s2 bW=>?_)
 obtain⟨H2,I2,q2⟩:=bW
 cases b with
 | true=>
  obtain⟨N,hN,q2⟩:=q2
  rw[if_pos rfl]
  refine wpAny_passesOwn hp (thn (hb pins s2 σ1 H2 _ I2 q2) λ f s3 q3=>?_)
  cases f with
  | next=>
   obtain⟨σ3,H3,I3,n3⟩:=q3
   obtain⟨m',hm,w3⟩:=hN σ3 H3 n3
   exact⟨m',hm,σ3,H3,I3,w3⟩
  | cont=>
   obtain⟨σ3,H3,I3,n3⟩:=q3
   obtain⟨m',hm,w3⟩:=hN σ3 H3 n3
   exact⟨m',hm,σ3,H3,I3,w3⟩
  |brk=>exact q3
  |ret v=>exact q3
 | false=>
  rw[if_neg Bool.false_ne_true]
  exact wpAny_execs_nil ⟨σ1,H2,I2,q2⟩
end
structure It where
 go:Nat->Hp->Prop
 yld:Nat->Hp->V->Hp->Prop
 stop:Nat->Hp->Prop
noncomputable def FpOk (X:Cx) (pins:List (Addr×Obj)) (H:Hp) (b:Addr):Prop:=
 H b=none/\b≠X.env.locals/\b∉X.fs/\(b∈X.ex\/X.s₀.heap.objs.size<=b)/\(∀x c,X.env.cells.lookup x=some c->c≠b)/\∀p∈X.pn++pins,p.1≠b
theorem Inv.fpOk {X:Cx} {pins:List (Addr×Obj)} {σ:St} {H H':Hp} {s:Shared} {b:Addr} (I:Inv X pins σ H s) (hb:s.heap.objs.size<=b) (hn:H' b=none):FpOk X pins H' b:=by
 refine⟨hn,Nat.ne_of_gt (z0d I.lt hb),I.nofs hb,.inr (z0b I.sz hb),λ x c e z=>?_,λ p hp z=>?_⟩
 ·obtain⟨v,q⟩:=I.cell x c e
  exact absurd (z0d q.lt (by rw[z];exact hb)) (Nat.lt_irrefl _)
 ·exact absurd (z0d (z2c (I.pin p hp).1) (by rw[z];exact hb)) (Nat.lt_irrefl _)
inductive agG (X:Cx) (pins:List (Addr×Obj)) (σ:St) (H:Hp) (J:It) (tn:Nat->Heap->Prop) (fp:List Addr) (i:Nat) (u:Value) (s2:Shared):Prop
 |mk (x:V) (H':Hp) (I:Inv X pins σ H' s2) (r:RelV x u) (y:J.yld i H x H') (st:tn (i+1) s2.heap) (f:∀b∈fp,H' b=none):agG X pins σ H J tn fp i u s2
structure Turn (P:Program) (w:World) (K:PySem.W.Frag) (tg:Expr) (J:It) (fp:List Addr) (it:Addr) (tn:Nat->Heap->Prop):Prop where
 mem:it∈fp
 obj:∀i h,tn i h->∀b∈fp,∃o,h.get? b=some o/\∀v,o.data≠.cell v
 keep:∀i h h',tn i h->(∀b∈fp,∀o,h.get? b=some o->h'.get? b=some o)->tn i h'
 item:∀(X:Cx),X.prog=P->X.w=w->X.K=K->X.calm=true->∀(i:Nat) (pins:List (Addr×Obj)) (s:Shared) (σ:St) (H:Hp) (E:Value->Shared->Prop),Inv X pins σ H s->(∀b∈fp,FpOk X pins H b)->tn i s.heap->J.go i H->
  wpAny (model P w) X.A (pyNext (.ref it)) (λ r s1=>∃u,r=some u/\
   wpAny (model P w) X.A (letOwnedTupleGo tg (.ref it) u) (λ Z s2=>agG X pins σ H J tn fp i u s2) E s1) E s
 done:∀(X:Cx),X.prog=P->X.w=w->X.K=K->X.calm=true->∀(i:Nat) (pins:List (Addr×Obj)) (s:Shared) (σ:St) (H:Hp) (E:Value->Shared->Prop),Inv X pins σ H s->(∀b∈fp,FpOk X pins H b)->tn i s.heap->J.stop i H->
  wpAny (model P w) X.A (pyNext (.ref it)) (λ r s1=>r=none/\Inv X pins σ H s1) E s
 self:∀(A:Around) (i:Nat) (s:Shared) (Q:Value->Shared->Prop) (E:Value->Shared->Prop),tn i s.heap->Q (.ref it) s->wpAny (model P w) A (pyIter (.ref it)) Q E s
noncomputable abbrev TI:=St->Hp->(It->Hp->Prop)->Prop
inductive PIE (X:Cx) (pins:List (Addr×Obj)) (σ:St) (tg:Expr) (R:It->Hp->Prop) (itv:Value) (s2:Shared):Prop
 |mk (it:Addr) (fp:List Addr) (tn:Nat->Heap->Prop) (J:It) (H':Hp) (e:itv= .ref it) (I:Inv X pins σ H' s2) (T:Turn X.prog X.w X.K tg J fp it tn) (st:tn 0 s2.heap) (f:∀b∈fp,FpOk X pins H' b) (r:R J H'):PIE X pins σ tg R itv s2
noncomputable def PI (X:Cx) (tg iter:Expr) (wi:TI):Prop:=
 ∀ (pins:List (Addr×Obj)) (s:Shared) (σ:St) (H:Hp) (R:It->Hp->Prop),Inv X pins σ H s->wi σ H R->
  wpAny (model X.prog X.w) X.A (eval iter X.env) (λ v s1=>wpAny (model X.prog X.w) X.A (pyIter v) (PIE X pins σ tg R) X.xe s1) X.xe s
theorem go_of {M:Model} {A:Around} {E:Value->Shared->Prop} {s:Shared} {tg:Expr} {it:Addr} {u:Value} {o:Obj} {n:String} {vs:Array Value} {Q:Unit->Shared->Prop} (ho:s.heap.get? it=some o) (hc:o.cls= .type n) (hd:o.data= .fields vs)
  (hn:["enumerate","zip","dict_itemiterator","dict_reverseitemiterator","odict_iterator","itertools.zip_longest","itertools.pairwise"].contains n=false) (hQ:Q () s):wpAny M A (letOwnedTupleGo tg (.ref it) u) Q E s:=by
 unfold letOwnedTupleGo
 cases tg <;> first
  |exact wpAny_pure hQ
  | (cases u <;> first
    |exact wpAny_pure hQ
    | (refine wpAny_bind (wpAny_load ho ?_)
       rw[hc,hd]
       show wpAny M A (if (["enumerate","zip","dict_itemiterator","dict_reverseitemiterator","odict_iterator","itertools.zip_longest","itertools.pairwise"].contains n && vs[0]? ==some (rawInt _))=true then _ else _) Q E s
       rw[if_neg (by intro h;rw[hn,Bool.false_and] at h;injection h)]
       exact wpAny_pure hQ))
noncomputable def Itl (K:PySem.W.Frag) (a:Addr):It:=
 ⟨λ i H=>∃xs x,SqL K H a xs/\xs[i]?=some x,λ i H x H'=>H'=H/\∀xs,SqL K H a xs->xs[i]?=some x,λ i H=>∃xs,SqL K H a xs/\xs.length<=i⟩
noncomputable def Itt (K:PySem.W.Frag) (a:Addr):It:=
 ⟨λ i H=>∃xs x,SqT K H a xs/\xs[i]?=some x,λ i H x H'=>H'=H/\∀xs,SqT K H a xs->xs[i]?=some x,λ i H=>∃xs,SqT K H a xs/\xs.length<=i⟩
noncomputable def Itr (lo:Int) (n:Nat):It:=⟨λ i Z=>i < n,λ i H x H'=>H'=H/\x= .int (lo+i),λ i Z=>n<=i⟩
theorem turn_list {P:Program} {w:World} {K:PySem.W.Frag} {tg:Expr} (a it:Addr):Turn P w K tg (Itl K a) [it] it (λ i h=>h.IsListIter it a i) where
 mem:=by simp
 obj:=λ i h st b hb=>by
  have e:b=it:=by simpa using hb
  subst e
  refine bc λ zQ=>?_
  obtain⟨o,e,c,d⟩:=st
  apply zQ;clear zQ
  exact⟨o,e,λ v z=>by rw[d] at z;injection z⟩
 keep:=λ i h h' st k=>st.at λ o e=>k it (by simp) o e
 item:=by
  intro X hP hw hK hc i pins s σ H E I hf st hg
  subst hP hw hK
  refine bc λ zQ=>?_
  obtain⟨xs,x,hq,hx⟩:=hg
  obtain⟨its,rv,p,hz⟩:=I.list hq
  obtain⟨u,hu,ru⟩:=rv.get hx
  obtain⟨f0,f1,f2,f3,f4,f5⟩:=hf it (by simp)
  apply zQ;clear zQ
  refine wpAny_pyNext_list_item st p.isList (x:=u) (by simpa using hu) λ h' st' sb=>?_
  have I1:Inv X pins σ H {s with heap:=h'}:=I.turned (t':=s.toks) (λ b o hb e=>(sb.2 b hb).trans e) f0 f1 f3 f4 f5
  refine bc λ zQ=>?_
  obtain⟨o,e,c,d⟩:=id st'
  apply zQ;clear zQ
  exact⟨u,rfl,go_of (s:={s with heap:=h'}) e c d (by decide) ⟨x,H,I1,ru,⟨rfl,λ ys hy=>by rw[I.list_inj hy hq];exact hx⟩,st',λ b hb=>(hf b hb).1⟩⟩
 done:=by
  intro X hP hw hK hc i pins s σ H E I hf st hg
  subst hP hw hK
  refine bc λ zQ=>?_
  obtain⟨xs,hq,hx⟩:=hg
  obtain⟨its,rv,p,hz⟩:=I.list hq
  obtain⟨f0,f1,f2,f3,f4,f5⟩:=hf it (by simp)
  apply zQ;clear zQ
  have hl:=rv.length
  exact wpAny_pyNext_list_end (I.ok.hd hc) st p.isList (by simp;exact QZ hl hx) λ h' eb=>⟨rfl,I.turned (t':=s.toks) (λ b o hb e=>eb b o hb e) f0 f1 f3 f4 f5⟩
 self:=λ Z Z Z Z Z st h=>wpAny_pyIter_listiter st h
theorem turn_tuple {P:Program} {w:World} {K:PySem.W.Frag} {tg:Expr} (a it:Addr):Turn P w K tg (Itt K a) [it] it (λ i h=>h.IsTupleIter it a i) where
 mem:=by simp
 obj:=λ i h st b hb=>by
  have e:b=it:=by simpa using hb
  subst e
  refine bc λ zQ=>?_
  obtain⟨o,e,c,d⟩:=st
  apply zQ;clear zQ
  exact⟨o,e,λ v z=>by rw[d] at z;injection z⟩
 keep:=λ i h h' st k=>st.at λ o e=>k it (by simp) o e
 item:=by
  intro X hP hw hK hc i pins s σ H E I hf st hg
  subst hP hw hK
  refine bc λ zQ=>?_
  obtain⟨xs,x,hq,hx⟩:=hg
  obtain⟨its,rv,p,hz⟩:=I.tuple hq
  obtain⟨u,hu,ru⟩:=rv.get hx
  obtain⟨f0,f1,f2,f3,f4,f5⟩:=hf it (by simp)
  apply zQ;clear zQ
  refine wpAny_pyNext_tuple_item st (show s.heap.IsTuple a its.toArray from p) (x:=u) (by simpa using hu) λ h' st' sb=>?_
  have I1:Inv X pins σ H {s with heap:=h'}:=I.turned (t':=s.toks) (λ b o hb e=>(sb.2 b hb).trans e) f0 f1 f3 f4 f5
  refine bc λ zQ=>?_
  obtain⟨o,e,c,d⟩:=id st'
  apply zQ;clear zQ
  exact⟨u,rfl,go_of (s:={s with heap:=h'}) e c d (by decide) ⟨x,H,I1,ru,⟨rfl,λ ys hy=>by rw[I.tuple_inj hy hq];exact hx⟩,st',λ b hb=>(hf b hb).1⟩⟩
 done:=by
  intro X hP hw hK hc i pins s σ H E I hf st hg
  subst hP hw hK
  refine bc λ zQ=>?_
  obtain⟨xs,hq,hx⟩:=hg
  obtain⟨its,rv,p,hz⟩:=I.tuple hq
  obtain⟨f0,f1,f2,f3,f4,f5⟩:=hf it (by simp)
  apply zQ;clear zQ
  have hl:=rv.length
  exact wpAny_pyNext_tuple_end (I.ok.hd hc) st (show s.heap.IsTuple a its.toArray from p) (by simp;exact QZ hl hx) λ h' eb=>⟨rfl,I.turned (t':=s.toks) (λ b o hb e=>eb b o hb e) f0 f1 f3 f4 f5⟩
 self:=λ Z Z Z Z Z st h=>wpAny_pyIter_tupleiter st h
theorem turn_range {P:Program} {w:World} {K:PySem.W.Frag} {tg:Expr} (it:Addr) (lo:Int) (n:Nat):Turn P w K tg (Itr lo n) [it] it (λ i h=>IsRangeIter h it (lo+(i:Nat)*1) ((n:Int) - (i:Nat)) 1) where
 mem:=by simp
 obj :=λ i h st b hb=>by
  have e:b=it:=by simpa using hb
  subst e
  exact⟨_,st,λ v z=>by
   have z':Data.fields _=Data.cell v:=z
   injection z'⟩
 keep:=λ i h h' st k=>k it (by simp) _ st
 item:=by
  intro X hP hw hK hc i pins s σ H E I hf st hg
  subst hP hw hK
  refine bc λ zQ=>?_
  obtain⟨f0,f1,f2,f3,f4,f5⟩:=hf it (by simp)
  apply zQ;clear zQ
  have W:=Walks.range (prog:=X.prog) (w:=X.w) (I.ok.hd hc) it lo 1 n
  refine W.item i s _ _ hg st λ v h' tk hv st' kk=>?_
  refine bc λ zQ=>?_
  obtain⟨t,rfl⟩:=hv
  apply zQ;clear zQ
  have I1:Inv X pins σ H {s with heap:=h',toks:=tk}:=I.turned (λ b o hb e=>kk b o (by simpa using hb) e) f0 f1 f3 f4 f5
  refine⟨_,rfl,go_of (s:={s with heap:=h',toks:=tk}) (n:= "range_iterator") st' rfl rfl (by decide) ⟨.int (lo+i),H,I1,⟨t,?_⟩,⟨rfl,rfl⟩,st',λ b hb=>(hf b hb).1⟩⟩
  rw[Int.mul_one]
 done:=by
  intro X hP hw hK hc i pins s σ H E I hf st hg
  subst hP hw hK
  refine bc λ zQ=>?_
  obtain⟨f0,f1,f2,f3,f4,f5⟩:=hf it (by simp)
  apply zQ;clear zQ
  exact wpAny_pyNext_range_end (I.ok.hd hc) st (by have:n<=i:=hg;exact oq2 this) λ h' eb=>⟨rfl,I.turned (t':=s.toks) (λ b o hb e=>eb b o hb e) f0 f1 f3 f4 f5⟩
 self:=λ Z Z Z Z Z st h=>wpAny_pyIter_rangeiter st h
section
variable {X:Cx} {tg:Expr}
theorem range_it {pins:List (Addr×Obj)} {σ:St} {H:Hp} {s:Shared} {R:It->Hp->Prop} {E:Value->Shared->Prop} {lo hi:Int} {t u v:Tok} {tk:Nat} (I:Inv X pins σ H s) (h1: -(2 ^ 62)<=lo) (h2:lo < 2 ^ 62) (h3: -(2 ^ 62)<=hi) (h4:hi < 2 ^ 62)
  (q:R (Itr lo (hi - lo).toNat) H):wpAny (model X.prog X.w) X.A (pyIter (.ref s.heap.objs.size)) (PIE X pins σ tg R) E {s with heap:=s.heap.push {cls:= .type "range",data:= .fields #[.int lo t,.int hi u,.int 1 v]},toks:=tk}:=by
 refine wpAny_pyIter_range (IsRange.new ..) (small_one h1 h2 h3 h4) ?_
 have I1:Inv X pins σ H {s with heap:=s.heap.push {cls:= .type "range",data:= .fields #[.int lo t,.int hi u,.int 1 v]},toks:=tk}:=I.kept λ b o e=>z1a _ e
 refine⟨(s.heap.push {cls:= .type "range",data:= .fields #[.int lo t,.int hi u,.int 1 v]}).objs.size,[(s.heap.push {cls:= .type "range",data:= .fields #[.int lo t,.int hi u,.int 1 v]}).objs.size],_,_,H,rfl,
  I1.kept (t':=tk) λ b o e=>z1a _ e,turn_range _ lo (hi - lo).toNat,?_,λ b hb=>?_,q⟩
 ·have e1:lo+((0:Nat):Int)*1=lo:=by simp
  have e2:(((hi - lo).toNat:Nat):Int) - ((0:Nat):Int)=Builtin.Range.rangeSize lo hi 1:=by rw[rangeSize_one];split <;> (first |exact oq3 (by assumption) |exact oq4 (by assumption))
  show IsRangeIter _ _ (lo+((0:Nat):Int)*1) ((((hi - lo).toNat:Nat):Int) - ((0:Nat):Int)) 1
  rw[e1,e2]
  exact z1f _ rfl
 ·have e:b=(s.heap.push {cls:= .type "range",data:= .fields #[.int lo t,.int hi u,.int 1 v]}).objs.size:=by simpa using hb
  subst e
  exact I1.fpOk (z0g _) (I1.hok.fresh (z0g _))
noncomputable def iRng1 (ta:TA):TI:=λ σ H R=>ta σ H λ vs H1=>∃j:Int,vs=[.int j]/\-(2 ^ 62)<=j/\j < 2 ^ 62/\R (Itr 0 j.toNat) H1
theorem pi_range1 {a:Expr} {ta:TA} {p pos:Pos} (hg:Gl X "range") (hm:X.mg "range" =none) (ha:PA X [a] ta) (hs:autoParam (starEach [a] X.env=[(false,eval a X.env)]) bD._auto_1):PI X tg (.Call (.Name "range" p) [a] [] pos) (iRng1 ta):=by
 intro pins s σ H R I h
 refine Call_ (ld_blt I hg hm boot_range (PyProof.Rows.callWith_type1 (thn (ha pos pins s σ H _ I h) λ us s1 ⟨vs,H1,I1,r1,q1⟩=>?_) hs rfl))
 obtain⟨j,e,q1,q2,q⟩:=q1
 subst e
 cases r1 with
 | cons r rr=>
  cases rr
  obtain⟨t,rfl⟩:=r
  exact call_range_1 (range_it I1 (by exact z0a _) (by exact z0a _) q1 q2 (by simpa using q))
noncomputable def tFor (wi:TI) (g:TG) (tb:TS):TS:=λ D σ H=>wi σ H λ J H1=>∃W:Nat->Nat->St->Hp->Prop,(∃m,W 0 m σ H1)/\∀i m σ H,W i m σ H->
 (J.stop i H/\D.nx σ H)\/(J.go i H/\∃N:St->Hp->Prop,(∀σ' H',N σ' H'->∃m',m' < m/\W (i+1) m' σ' H')/\∀x H',J.yld i H x H'->g x σ H' λ σ2 H2=>tb {D with nx:=N,ct:=N,bk:=D.nx} σ2 H2)
noncomputable def pinsAt (fp:List Addr) (h:Heap):List (Addr×Obj):=fp.filterMap λ b=>(h.get? b).map λ o=>(b,o)
theorem mem_pinsAt {fp:List Addr} {h:Heap} {b:Addr} {o:Obj} (hb:b∈fp) (e:h.get? b=some o):(b,o)∈pinsAt fp h:=List.mem_filterMap.mpr ⟨b,hb,by rw[e];rfl⟩
theorem of_pinsAt {fp:List Addr} {h:Heap} {p:Addr×Obj} (hp:p∈pinsAt fp h):p.1∈fp/\h.get? p.1=some p.2:=by
 obtain⟨b,hb,e⟩:=List.mem_filterMap.mp hp
 cases q:h.get? b with
 |none=>rw[q] at e;injection e
 | some o=>
  rw[q] at e
  have e':(b,o)=p:=Option.some.inj e
  subst e'
  exact⟨hb,q⟩
theorem Inv.pinned {pins:List (Addr×Obj)} {σ:St} {H:Hp} {s:Shared} {fp:List Addr} (I:Inv X pins σ H s) (hf:∀b∈fp,FpOk X pins H b) (ho:∀b∈fp,∃o,s.heap.get? b=some o/\∀v,o.data≠.cell v):Inv X (pins++pinsAt fp s.heap) σ H s:=
 I.pins_of λ p hp=>(List.mem_append.mp hp).elim (λ z=>I.pin p (List.mem_append_right _ z)) λ z=>by
  refine bc λ zQ=>?_
  obtain⟨hb,e⟩:=of_pinsAt z
  obtain⟨f0,f1,f2,_⟩:=hf p.1 hb
  obtain⟨o,e',d⟩:=ho p.1 hb
  apply zQ;clear zQ
  rw[e] at e';(injection e' with aD;subst aD)
  exact⟨e,f0,f1,f2,d⟩
theorem Inv.unpinned {pins pl:List (Addr×Obj)} {σ:St} {H:Hp} {s:Shared} (I:Inv X (pins++pl) σ H s):Inv X pins σ H s:=I.pins_of λ p hp=>I.pin p (List.mem_append_right _ (List.mem_append_left _ hp))
inductive ae8 (X:Cx) (pins:List (Addr×Obj)) (tn:Nat->Heap->Prop) (fp:List Addr) (W:Nat->Nat->St->Hp->Prop) (n:Nat) (s':Shared):Prop
 |mk (i:Nat) (σ':St) (H':Hp) (I:Inv X pins σ' H' s') (st:tn i s'.heap) (fr:∀b∈fp,H' b=none) (w:W i n σ' H'):ae8 X pins tn fp W n s'
theorem ps_for {iter:Expr} {body:List Stmt} {wi:TI} {g:TG} {tb:TS} {pos:Pos} (hp:PassesOwn (model X.prog X.w) X.A X.env X.xe) (hc:X.calm=true) (hi:PI X tg iter wi) (hg:PG X tg g) (hb:PSs X body tb)
  (hs:autoParam (∀x,foldedSetIterable iter X.env x=pure x) Zr._auto_1):PS X (.For tg iter body [] pos) (tFor wi g tb):=by
 intro pins s σ H D I h
 refine wpAny_For (thn (hi pins s σ H _ I h) λ v s1 h1=>thn h1 λ itv s2 h2=>?_) hs
 obtain⟨it,fp,tn,J,H2,e,I2,T,st2,f2,W,⟨m0,w0⟩,turn⟩:=h2
 subst e
 have stat:∀{H':Hp},(∀b∈fp,H' b=none)->∀b∈fp,FpOk X pins H' b:=λ hn b hb=>⟨hn b hb,(f2 b hb).2⟩
 refine codeAny_forLoop_any (λ n s'=>ae8 X pins tn fp W n s') ?_ m0 ⟨0,σ,H2,I2,st2,λ b hb=>(f2 b hb).1,w0⟩
 rintro n s3 ⟨i,σ3,H3,I3,st3,fr3,w3⟩
 rcases turn i n σ3 H3 w3 with⟨stop,qn⟩ |⟨go,N,hN,step⟩
 ·refine wpAny_passesOwn hp (thn (T.done X rfl rfl rfl hc i pins s3 σ3 H3 X.xe I3 (stat fr3) st3 stop) λ r s4 bW=>?_)
  obtain⟨hr,I4⟩:=bW
  subst hr
  exact wpAny_execs_nil ⟨σ3,H3,I4,qn⟩
 ·refine wpAny_passesOwn hp (thn (T.item X rfl rfl rfl hc i pins s3 σ3 H3 X.xe I3 (stat fr3) st3 go) λ r s4 bW=>?_)
  obtain⟨u,hr,h4⟩:=bW
  subst hr
  refine wpAny_passesOwn hp (thn h4 λ Z s5 bW=>?_)
  obtain⟨x,H5,I5,r5,y5,st5,fr5⟩:=bW
  have I5':=I5.pinned (stat fr5) (T.obj _ _ st5)
  refine wpAny_passesOwn hp (thn (hg _ s5 σ3 H5 x u _ I5' r5 (step x H5 y5)) λ Z s6 bW=>?_)
  obtain⟨σ6,H6,I6,q6⟩:=bW
  refine wpAny_passesOwn hp (thn (hb _ s6 σ6 H6 _ I6 q6) λ f s7 q7=>?_)
  have again:∀{σ7:St} {H7:Hp},Inv X (pins++pinsAt fp s5.heap) σ7 H7 s7->N σ7 H7->∃m,m < n/\ae8 X pins tn fp W m s7:=λ {σ7 H7} I7 n7=>by
   obtain⟨m',hm,w7⟩:=hN σ7 H7 n7
   refine⟨m',hm,i+1,σ7,H7,I7.unpinned,T.keep _ _ _ st5 λ b hb o e=>(I7.pin (b,o) (List.mem_append_right _ (List.mem_append_right _ (mem_pinsAt hb e)))).1,λ b hb=>?_,w7⟩
   obtain⟨o,e,d⟩:=T.obj _ _ st5 b hb
   exact (I7.pin (b,o) (List.mem_append_right _ (List.mem_append_right _ (mem_pinsAt hb e)))).2.1
  cases f with
  |next=>obtain⟨σ7,H7,I7,n7⟩:=q7;exact again I7 n7
  |cont=>obtain⟨σ7,H7,I7,n7⟩:=q7;exact again I7 n7
  |brk=>obtain⟨σ7,H7,I7,q7⟩:=q7;exact⟨σ7,H7,I7.unpinned,q7⟩
  |ret v=>obtain⟨x7,σ7,H7,I7,r7,q7⟩:=q7;exact⟨x7,σ7,H7,I7.unpinned,r7,q7⟩
end
noncomputable abbrev R2:=V->V->Hp->VK->Prop
noncomputable def OpR (X:Cx) (f:Value->Value->Sem Value) (r:R2):Prop:=
 ∀ (pins:List (Addr×Obj)) (s:Shared) (σ:St) (H:Hp) (x y:V) (v u:Value) (Q:VK),Inv X pins σ H s->RelV x v->RelV y u->r x y H Q->
  wpAny (model X.prog X.w) X.A (f v u) (EP X pins σ Q) X.xe s
noncomputable def UnR (X:Cx) (f:Value->Sem Value) (r:V->Hp->VK->Prop):Prop:=
 ∀ (pins:List (Addr×Obj)) (s:Shared) (σ:St) (H:Hp) (x:V) (v:Value) (Q:VK),Inv X pins σ H s->RelV x v->r x H Q->
  wpAny (model X.prog X.w) X.A (f v) (EP X pins σ Q) X.xe s
noncomputable def CallR (X:Cx) (f:Value) (r:List V->Hp->VK->Prop):Prop:=
 ∀ (pins:List (Addr×Obj)) (s:Shared) (σ:St) (H:Hp) (xs:List V) (us:List Value) (Q:VK),Inv X pins σ H s->Vals xs us->r xs H Q->
  wpAny (model X.prog X.w) X.A (call f us) (EP X pins σ Q) X.xe s
noncomputable def TruR (X:Cx) (r:V->Hp->(Bool->Hp->Prop)->Prop):Prop:=
 ∀ (pins:List (Addr×Obj)) (s:Shared) (σ:St) (H:Hp) (x:V) (v:Value) (Q:Bool->Hp->Prop),Inv X pins σ H s->RelV x v->r x H Q->
  wpAny (model X.prog X.w) X.A (truthy v) (TP X pins σ Q) X.xe s
noncomputable def tOp (r:R2) (ta tb:TE):TE:=λ σ H Q=>ta σ H λ x H1=>tb σ H1 λ y H2=>r x y H2 Q
noncomputable def tUn (r:V->Hp->VK->Prop) (ta:TE):TE:=λ σ H Q=>ta σ H λ x H1=>r x H1 Q
noncomputable def rI (C:Int->Int->Prop) (g:Int->Int->V):R2:=λ x y H Q=>∃i j,x= .int i/\y= .int j/\C i j/\Q (g i j) H
noncomputable def rI0 (g:Int->Int->V):R2:=λ x y H Q=>∃i j,x= .int i/\y= .int j/\Q (g i j) H
noncomputable def rU (g:Int->V):V->Hp->VK->Prop:=λ x H Q=>∃i,x= .int i/\Q (g i) H
section
variable {X:Cx} {a b c:Expr} {ta tb tc:TE} {pos:Pos}
theorem binT (ha:PE X a ta) (hb:PE X b tb) {pins:List (Addr×Obj)} {s:Shared} {σ:St} {H:Hp} {R:V->V->Hp->Prop} (I:Inv X pins σ H s)
  (h:ta σ H λ x H1=>tb σ H1 λ y H2=>R x y H2) {Q:Value->Shared->Prop} {f:Value->Value->Sem Value}
  (hf:∀v u s2 x y H2,Inv X pins σ H2 s2->RelV x v->RelV y u->R x y H2->wpAny (model X.prog X.w) X.A (f v u) Q X.xe s2):
  wpAny (model X.prog X.w) X.A (eval a X.env) (λ v s₁=>wpAny (model X.prog X.w) X.A (eval b X.env) (λ u s₂=>wpAny (model X.prog X.w) X.A (f v u) Q X.xe s₂) X.xe s₁) X.xe s:=by
 refine thn (ha pins s σ H _ I h) λ v s1 bW=>?_
 obtain⟨x,H1,I1,r1,q1⟩:=bW
 refine thn (hb pins s1 σ H1 _ I1 q1) λ u s2 bW=>?_
 obtain⟨y,H2,I2,r2,q2⟩:=bW
 exact hf v u s2 x y H2 I2 r1 r2 q2
theorem pe_op {op:Operator} {r:R2} (ho:OpR X (binaryOp op) r) (ha:PE X a ta) (hb:PE X b tb):PE X (.BinOp a op b pos) (tOp r ta tb):=by
 intro pins s σ H Q I h
 exact wpAny_BinOp (binT ha hb I h λ v u s2 x y H2 I2 rx ry q=>ho pins s2 σ H2 x y v u Q I2 rx ry q)
theorem pe_un {op:UnaryOp} {r:V->Hp->VK->Prop} (ho:UnR X (unaryOp op) r) (ha:PE X a ta):PE X (.UnaryOp op a pos) (tUn r ta):=by
 intro pins s σ H Q I h
 exact UnaryOp_ (thn (ha pins s σ H _ I h) λ v s1 ⟨x,H1,I1,r1,q1⟩=>ho pins s1 σ H1 x v Q I1 r1 q1)
theorem opI {f:Value->Value->Sem Value} {C:Int->Int->Prop} {g:Int->Int->Int}
  (rule:∀(i j:Int) (t u:Tok) (s:Shared) (Q:Value->Shared->Prop) (E:Value->Shared->Prop),C i j->Q (.int (g i j) s.toks) {s with toks:=s.toks+1}->wpAny (model X.prog X.w) X.A (f (.int i t) (.int j u)) Q E s):
  OpR X f (rI C λ i j=> .int (g i j)):=by
 intro pins s σ H x y v u Q I rx ry h
 obtain⟨i,j,rfl,rfl,hc,q⟩:=h
 obtain⟨t,rfl⟩:=rx
 obtain⟨t',rfl⟩:=ry
 exact rule i j t t' s _ _ hc ⟨.int (g i j),H,I.tok _,⟨_,rfl⟩,q⟩
theorem opI0 {f:Value->Value->Sem Value} {g:Int->Int->Int}
  (rule:∀(i j:Int) (t u:Tok) (s:Shared) (Q:Value->Shared->Prop) (E:Value->Shared->Prop),Q (.int (g i j) s.toks) {s with toks:=s.toks+1}->wpAny (model X.prog X.w) X.A (f (.int i t) (.int j u)) Q E s):
  OpR X f (rI0 λ i j=> .int (g i j)):=by
 intro pins s σ H x y v u Q I rx ry h
 obtain⟨i,j,rfl,rfl,q⟩:=h
 obtain⟨t,rfl⟩:=rx
 obtain⟨t',rfl⟩:=ry
 exact rule i j t t' s _ _ ⟨.int (g i j),H,I.tok _,⟨_,rfl⟩,q⟩
theorem opB0 {f:Value->Value->Sem Value} {g:Int->Int->Bool}
  (rule:∀(i j:Int) (t u:Tok) (s:Shared) (Q:Value->Shared->Prop) (E:Value->Shared->Prop),Q (.bool (g i j)) s->wpAny (model X.prog X.w) X.A (f (.int i t) (.int j u)) Q E s):
  OpR X f (rI0 λ i j=> .bl (g i j)):=by
 intro pins s σ H x y v u Q I rx ry h
 obtain⟨i,j,rfl,rfl,q⟩:=h
 obtain⟨t,rfl⟩:=rx
 obtain⟨t',rfl⟩:=ry
 exact rule i j t t' s _ _ ⟨.bl (g i j),H,I,rfl,q⟩
noncomputable def CPow (i j:Int):Prop:=0<=j/\j<=1000000/\i.natAbs < 2 ^ 64
noncomputable def CMul (i j:Int):Prop:=(-(2 ^ 64) < i/\i < 2 ^ 64)\/(-(2 ^ 64) < j/\j < 2 ^ 64)
theorem CMul.ok {i j:Int} (h:CMul i j):IntMulOk i j:=by
 rcases h with⟨h1,h2⟩ |⟨h1,h2⟩
 ·exact .of_left (intBits_le_64 h1 h2)
 ·exact .of_right (intBits_le_64 h1 h2)
theorem op_add:OpR X (binaryOp .Add) (rI0 λ i j=> .int (i+j)):=opI0 λ Z Z Z Z Z Z Z q=>add_int q
theorem op_sub:OpR X (binaryOp .Sub) (rI0 λ i j=> .int (i - j)):=opI0 λ Z Z Z Z Z Z Z q=>sub_int q
theorem op_mul:OpR X (binaryOp .Mult) (rI CMul λ i j=> .int (i*j)):=opI λ Z Z Z Z Z Z Z hc q=>mul_int q hc.ok
theorem op_mod:OpR X (binaryOp .Mod) (rI (λ Z j=>0 < j) λ i j=> .int (i % j)):=opI λ i j Z Z Z Z Z hc q=>by
 have h1:(0:Int) < j:=hc
 exact mod_int' (by exact oq5 hc) (by rw[Int.fmod_eq_emod_of_nonneg i (by exact Int.le_of_lt hc)];exact q)
theorem op_pow:OpR X (binaryOp .Pow) (rI CPow λ i j=> .int (i ^ j.toNat)):=opI λ Z Z Z Z Z Z Z hc q=>pow_int_small hc.1 hc.2.1 hc.2.2 q
theorem unI {f:Value->Sem Value} {g:Int->Int}
  (rule:∀(i:Int) (t:Tok) (s:Shared) (Q:Value->Shared->Prop) (E:Value->Shared->Prop),Q (.int (g i) s.toks) {s with toks:=s.toks+1}->wpAny (model X.prog X.w) X.A (f (.int i t)) Q E s):
  UnR X f (rU λ i=> .int (g i)):=by
 intro pins s σ H x v Q I rx h
 obtain⟨i,rfl,q⟩:=h
 obtain⟨t,rfl⟩:=rx
 exact rule i t s _ _ ⟨.int (g i),H,I.tok _,⟨_,rfl⟩,q⟩
theorem un_neg:UnR X (unaryOp .USub) (rU λ i=> .int (-i)):=unI λ Z Z Z Z Z q=>neg_int q
end
section
variable {X:Cx} {a b c:Expr} {ta tb tc:TE} {pos:Pos}
theorem fin_bl {pins:List (Addr×Obj)} {σ:St} {H:Hp} {s:Shared} {Q:VK} {k k':Bool} (I:Inv X pins σ H s) (q:Q (.bl k) H) (e:k=k'):EP X pins σ Q (.bool k') s:=by
 subst e
 exact⟨.bl k,H,I,rfl,q⟩
theorem op_lt:OpR X (compareOp .Lt) (rI0 λ i j=> .bl (decide (i < j))):=opB0 λ Z Z Z Z Z Z Z q=>lt_int q
theorem op_le:OpR X (compareOp .LtE) (rI0 λ i j=> .bl (decide (i<=j))):=opB0 λ Z Z Z Z Z Z Z q=>le_int q
theorem op_gt:OpR X (compareOp .Gt) (rI0 λ i j=> .bl (decide (j < i))):=opB0 λ Z Z Z Z Z Z Z q=>gt_int q
theorem op_ge:OpR X (compareOp .GtE) (rI0 λ i j=> .bl (decide (j<=i))):=opB0 λ Z Z Z Z Z Z Z q=>ge_int q
theorem op_isN:OpR X (compareOp .Is) (λ x y H Q=>y= .non/\Q (.bl (decide (x= .non))) H):=by
 intro pins s σ H x y v u Q I rx ry h
 obtain⟨rfl,q⟩:=h
 obtain rfl:=ry
 refine is_none_gen (fin_bl I q ?_)
 cases x <;> first
  |(obtain rfl:=rx;rfl)
  |(obtain⟨t,rfl⟩:=rx;rfl)
theorem op_notN:OpR X (compareOp .IsNot) (λ x y H Q=>y= .non/\Q (.bl (!decide (x= .non))) H):=by
 intro pins s σ H x y v u Q I rx ry h
 obtain⟨rfl,q⟩:=h
 obtain rfl:=ry
 refine isnot_none_gen (fin_bl I q ?_)
 cases x <;> first
  |(obtain rfl:=rx;rfl)
  |(obtain⟨t,rfl⟩:=rx;rfl)
theorem OpR.or {f:Value->Value->Sem Value} {r r':R2} (h:OpR X f r) (h':OpR X f r'):OpR X f (λ x y H Q=>r x y H Q\/r' x y H Q):=by
 intro pins s σ H x y v u Q I rx ry q
 rcases q with q |q
 ·exact h pins s σ H x y v u Q I rx ry q
 ·exact h' pins s σ H x y v u Q I rx ry q
theorem nomark (b:Expr) {op:CmpOp} (h:autoParam (op≠.In) eY._auto_1) (h2:autoParam (op≠.NotIn) eY._auto_1):behindInMarks op b=false:=by
 have e1:(op ==CmpOp.In)=false:=by cases op <;> first |rfl |exact absurd rfl h
 have e2:(op ==CmpOp.NotIn)=false:=by cases op <;> first |rfl |exact absurd rfl h2
 cases b with
 |Set elts k _=>show (k ==0 && (op == .In || op == .NotIn) && elts.all (constantsAlone 8))=false;rw[e1,e2,Bool.or_false,Bool.and_false,Bool.false_and]
 |_=>rfl
theorem pe_cmpR {op:CmpOp} {r:R2} (ho:OpR X (compareOp op) r) (ha:PE X a ta) (hb:PE X b tb) (hm:behindInMarks op b=false):PE X (.Compare a [op] [b] pos) (tOp r ta tb):=by
 intro pins s σ H Q I h
 exact wpAny_Compare1 (binT ha hb I h λ v u s2 x y H2 I2 rx ry q=>ho pins s2 σ H2 x y v u Q I2 rx ry q) hm
noncomputable def tTest (t:TE):TT:=λ σ H Q=>t σ H λ x H'=>∃k,x= .bl k/\Q k H'
theorem pt_cmpR {op:CmpOp} {r:R2} (ho:OpR X (compareOp op) r) (ha:PE X a ta) (hb:PE X b tb) (hm:behindInMarks op b=false):PT X (.Compare a [op] [b] pos) (tTest (tOp r ta tb)):=by
 intro pins s σ H Q I h
 refine wpAny_isTrue_Compare1 (thn (ha pins s σ H _ I h) λ v s1 ⟨x,H1,I1,r1,q1⟩=>thn (hb pins s1 σ H1 _ I1 q1) λ u s2 ⟨y,H2,I2,r2,q2⟩=>
  thn (ho pins s2 σ H2 x y v u _ I2 r1 r2 q2) λ c s3 ⟨z,H3,I3,r3,k,e,q3⟩=>?_) hm
 subst e
 obtain rfl:=r3
 exact wpAny_truthy_bool ⟨H3,I3,q3⟩
noncomputable def tChain (r r':R2) (ta tb tc:TE):TE:=λ σ H Q=>ta σ H λ x H1=>tb σ H1 λ y H2=>r x y H2 λ z H3=>∃k,z= .bl k/\
 (if k=true then tc σ H3 λ w' H4=>r' y w' H4 Q else Q (.bl false) H3)
theorem pe_chain {op op':CmpOp} {r r':R2} (ho:OpR X (compareOp op) r) (ho':OpR X (compareOp op') r') (ha:PE X a ta) (hb:PE X b tb) (hc:PE X c tc)
  (hm:autoParam (lastMarks [op,op'] [b,c]=false) ap8._auto_1):PE X (.Compare a [op,op'] [b,c] pos) (tChain r r' ta tb tc):=by
 intro pins s σ H Q I h
 refine Compare_chain (thn (ha pins s σ H _ I h) λ v s1 ⟨x,H1,I1,r1,q1⟩=>chain_link (thn (hb pins s1 σ H1 _ I1 q1) λ u s2 ⟨y,H2,I2,r2,q2⟩=>
  thn (ho pins s2 σ H2 x y v u _ I2 r1 r2 q2) λ d s3 ⟨z,H3,I3,r3,k,e,q3⟩=>?_)) hm
 subst e
 obtain rfl:=r3
 refine wpAny_truthy_bool ?_
 cases k with
 |false=>exact ite_ff ⟨.bl false,H3,I3,rfl,q3⟩
 |true=>exact ite_tt (chain_last (thn (hc pins s3 σ H3 _ I3 q3) λ w' s4 ⟨z',H4,I4,r4,q4⟩=>ho' pins s4 σ H4 y z' u w' Q I4 r2 r4 q4))
noncomputable def TruV (K:PySem.W.Frag) (x:V) (H:Hp) (k:Bool):Prop:=
 match x with
 | .non=>k=false
 | .bl b=>k=b
 | .int i=>k=(i !=0)
 | .str y=>y.length<=sizeLine/\k=((y.length:Int) !=0)
 | .byt y=>y.size<=sizeLine/\k=((y.size:Int) !=0)
 | .ref p=>(∃xs,SqL K H p xs/\k= !xs.isEmpty)\/(∃xs,SqT K H p xs/\k= !xs.isEmpty)\/∃kvs,H p=some (.dK kvs)/\k= !kvs.isEmpty
 |_=>False
theorem isEmpty_kv {κ:Type} {kvs:List (κ×V)} {vs:List (κ×Value)} (r:KV kvs vs):(!vs.isEmpty)= !kvs.isEmpty:=by
 cases r <;> rfl
theorem isEmpty_of {xs:List V} {its:List Value} (r:Vals xs its):(!its.toArray.isEmpty)= !xs.isEmpty:=by
 cases r <;> simp
theorem line63:(sizeLine:Nat) < 2 ^ 63:=by rw[sizeLine_eq];decide
theorem tru_ok:TruR X (λ x H Q=>∃k,TruV X.K x H k/\Q k H):=by
 intro pins s σ H x v Q I rx h
 obtain⟨k,e,q⟩:=h
 have hl:=line63
 have hs:sizeLine=16777216:=sizeLine_eq
 cases x with
 | non=>
  obtain rfl:=rx
  have e':k=false:=e
  subst e'
  exact truthy_none ⟨H,I,q⟩
 | bl b=>
  obtain rfl:=rx
  have e':k=b:=e
  subst e'
  exact wpAny_truthy_bool ⟨H,I,q⟩
 | int i=>
  obtain⟨t,rfl⟩:=rx
  have e':k=(i !=0):=e
  subst e'
  exact PySem.P.truthy_int ⟨H,I,q⟩
 | str y=>
  obtain⟨t,rfl⟩:=rx
  obtain⟨hy,e'⟩:y.length<=sizeLine/\k=((y.length:Int) !=0):=e
  subst e'
  exact PySem.P.truthy_str (by exact als hy hl) ⟨H,I.tok _,q⟩
 | byt y=>
  obtain⟨t,rfl⟩:=rx
  obtain⟨hy,e'⟩:y.size<=sizeLine/\k=((y.size:Int) !=0):=e
  subst e'
  exact PySem.W.truthy_bytes (by exact oq6 hy hs) ⟨H,I.tok _,q⟩
 | ref p=>
  obtain rfl:=rx
  have e':(∃xs,SqL X.K H p xs/\k= !xs.isEmpty)\/(∃xs,SqT X.K H p xs/\k= !xs.isEmpty)\/∃kvs,H p=some (.dK kvs)/\k= !kvs.isEmpty:=e
  rcases e' with⟨xs,hx,e'⟩ |⟨xs,hx,e'⟩ |⟨kvs,hx,e'⟩
  ·subst e'
   obtain⟨its,r,pl,hz⟩:=I.list hx
   have hlen:=r.length
   exact wpAny_truthy_list pl.isList (by simp only[z1c];omega) ⟨H,I.tok _,by rw[isEmpty_of r];exact q⟩
  ·subst e'
   obtain⟨its,r,pl,hz⟩:=I.tuple hx
   have hlen:=r.length
   exact truthy_tuple pl (by simp only[z1c];omega) ⟨H,I.tok _,by rw[isEmpty_of r];exact q⟩
  ·subst e'
   obtain⟨hz,hS,vs,r,m⟩:kvs.length<=sizeLine/\(p ==sysModules)=false/\∃vs,KV kvs vs/\s.heap.DictOf (mixKind X.prog X.w) p vs:=I.hok p _ hx
   have hlen:kvs.length=vs.length:=Paired.length r
   exact wpAny_truthy_dict hS m (by omega) ⟨H,I.tok _,by rw[isEmpty_kv r];exact q⟩
 |_=>exact (show False from e).elim
theorem pt_truth (ha:PE X a ta) (he:∀whole,isTrue a X.env whole=(do let v <-whole;standAt a.pos;holding [v] (truthy v))):
  PT X a (λ σ H Q=>ta σ H λ x H'=>∃k,TruV X.K x H' k/\Q k H'):=by
 intro pins s σ H Q I h
 exact isTrue_plain (thn (ha pins s σ H _ I h) λ v s1 ⟨x,H1,I1,r1,q1⟩=>tru_ok pins s1 σ H1 x v Q I1 r1 q1) (he _)
theorem vals1 {x:V} {us:List Value} (r:Vals [x] us):∃u,us=[u]/\RelV x u:=by
 cases r with
 |cons r1 r2=>cases r2;exact⟨_,rfl,r1⟩
theorem vals2 {x y:V} {us:List Value} (r:Vals [x,y] us):∃u w',us=[u,w']/\RelV x u/\RelV y w':=by
 cases r with
 | cons r1 r2=>
  cases r2 with
  |cons r3 r4=>cases r4;exact⟨_,_,rfl,r1,r3⟩
theorem call_abs:CallR X (.builtin "abs") (λ xs H Q=>∃i,xs=[.int i]/\Q (.int (if i < 0 then -i else i)) H):=by
 intro pins s σ H xs us Q I r h
 obtain⟨i,rfl,q⟩:=h
 obtain⟨u,rfl,t,rfl⟩:=vals1 r
 exact call_abs_int λ u tk=>⟨.int (if i < 0 then -i else i),H,I.tok _,⟨_,rfl⟩,q⟩
theorem call_max2 (hc:X.calm=true):CallR X (.builtin "max") (λ xs H Q=>∃i j,xs=[.int i,.int j]/\Q (.int (if j > i then j else i)) H):=by
 intro pins s σ H xs us Q I r h
 obtain⟨i,j,rfl,q⟩:=h
 obtain⟨u,w',rfl,⟨t,rfl⟩,⟨t',rfl⟩⟩:=vals2 r
 refine max_two_ints (I.ok.hd hc) λ h' tk k=>⟨_,H,I.kept k,?_,q⟩
 by_cases hj:j > i
 ·rw[if_pos hj,if_pos hj];exact⟨_,rfl⟩
 ·rw[if_neg hj,if_neg hj];exact⟨_,rfl⟩
theorem call_min2 (hc:X.calm=true):CallR X (.builtin "min") (λ xs H Q=>∃i j,xs=[.int i,.int j]/\Q (.int (if j < i then j else i)) H):=by
 intro pins s σ H xs us Q I r h
 obtain⟨i,j,rfl,q⟩:=h
 obtain⟨u,w',rfl,⟨t,rfl⟩,⟨t',rfl⟩⟩:=vals2 r
 refine min_two_ints (I.ok.hd hc) λ h' tk k=>⟨_,H,I.kept k,?_,q⟩
 by_cases hj:j < i
 ·rw[if_pos hj,if_pos hj];exact⟨_,rfl⟩
 ·rw[if_neg hj,if_neg hj];exact⟨_,rfl⟩
end
section
variable {prog:Program} {w:World} {A:Around} {E:Value->Shared->Prop} {s:Shared} {K:PySem.W.Frag} {x dx C f:Addr} {mA:Str->Option Value} {name:Str} {v:Value}
end
section
variable {P:Program} {w:World} {H H':Hp} {h h':Heap} {a C dx:Addr} {fs fs':List (Str×V)}
end
section
variable {X:Cx} {pins:List (Addr×Obj)} {σ:St} {H:Hp} {s:Shared} {a C dx:Addr} {fs:List (Str×V)} {f:Str} {v:V} {A:Around} {E:Value->Shared->Prop}
end
section
variable {X:Cx} {o e value:Expr} {f:Str} {pos pos' tpos:Pos} {ta tv:TE}
end
section
variable {X:Cx} {pins:List (Addr×Obj)} {σ:St} {H:Hp} {s:Shared} {A:Around} {E:Value->Shared->Prop} {Q:Value->Shared->Prop} {c:Value} {b:Bool}
end
structure Room (k:Nat) (A:Around):Prop where
 hd:A.handled=none
 dp:A.depth+3*k+5 < recursionLimit
 un:A.units+16*k+200 < cLine
theorem Room.mono {j k:Nat} {A:Around} (r:Room k A) (h:j<=k):Room j A:=⟨r.hd,by have:=r.dp;exact oq8 this h,by have:=r.un;exact oq7 this h⟩
theorem Room.deeper {k:Nat} {A:Around} (r:Room (k+1) A) (env:Env):Room k (A.deeper env):=
 ⟨r.hd,by have:=r.dp;show A.depth+1+3*k+5 < _;exact alU this,by have:=r.un;show A.units+3+16*k+200 < _;exact oq9 this⟩
theorem Room.depth {k:Nat} {A:Around} (r:Room k A):A.depth < recursionLimit:=by have:=r.dp;exact alV this
noncomputable def tNil:TA:=λ Z H Q=>Q [] H
noncomputable def tCons (ta:TE) (tr:TA):TA:=λ σ H Q=>ta σ H λ x H1=>tr σ H1 λ xs H2=>Q (x::xs) H2
section
variable {X:Cx} {e:Expr} {es:List Expr} {te:TE} {t:TA} {pos:Pos}
theorem pa_nil:PA X [] tNil:=λ Z Z Z Z H Q I h=>Calls.spliced_nil ⟨[],H,I,.nil,h⟩
theorem pa_cons (ha:PE X e te) (hr:PA X es t) (hs:autoParam (starEach (e::es) X.env=(false,eval e X.env)::starEach es X.env) bD._auto_1):PA X (e::es) (tCons te t):=by
 intro pos pins s σ H Q I h
 rw[hs]
 show wpAny _ _ (spliced ((false,eval e X.env)::backTo pos (starEach es X.env))) _ _ s
 refine Calls.spliced_cons (thn (ha pins s σ H _ I h) λ u s1 bW=>?_)
 obtain⟨x,H1,I1,r1,q1⟩:=bW
 refine thn (hr pos pins s1 σ H1 _ I1 q1) λ us s2 bW=>?_
 obtain⟨xs,H2,I2,r2,q2⟩:=bW
 exact⟨x::xs,H2,I2,.cons r1 r2,q2⟩
noncomputable def tTup (t:TA):TE:=λ σ H Q=>t σ H λ xs H1=>xs.length<=sizeLine/\∀p,H1 p=none->Q (.ref p) (upd H1 p (.tup xs))
noncomputable def tLst (t:TA):TE:=λ σ H Q=>t σ H λ xs H1=>xs.length<=sizeLine/\∀p,H1 p=none->Q (.ref p) (upd H1 p (.lst xs))
theorem pe_tup {x1} (h:PA X es t):PE X (.Tuple es x1 pos) (tTup t):=by
 intro pins s σ H Q I hq
 refine wpAny_Tuple_spliced (thn (h pos pins s σ H _ I hq) λ us s1 ⟨xs,H1,I1,r,z,q⟩=>⟨by rw[<-r.length];exact z,?_⟩)
 have hf:H1 s1.heap.objs.size=none:=I1.hok.fresh (z0g _)
 refine⟨.ref s1.heap.objs.size,upd H1 s1.heap.objs.size (.tup xs),I1.laid (t':=s1.toks) (λ b u e=>z1a _ e) (z0g _) ?_,rfl,q _ hf⟩
 exact⟨z,us,r,⟨_,z1f _ rfl,rfl,_,rfl⟩⟩
theorem pe_lst (h:PA X es t):PE X (.List es pos) (tLst t):=by
 intro pins s σ H Q I hq
 refine wpAny_List_spliced (thn (h pos pins s σ H _ I hq) λ us s1 ⟨xs,H1,I1,r,z,q⟩=>⟨by rw[<-r.length];exact z,?_⟩)
 have hf:H1 s1.heap.objs.size=none:=I1.hok.fresh (z0g _)
 refine⟨.ref s1.heap.objs.size,upd H1 s1.heap.objs.size (.lst xs),I1.laid (t':=s1.toks) (λ b u e=>z1a _ e) (z0g _) ?_,rfl,q _ hf⟩
 exact⟨z,us,0,r,z1f _ rfl⟩
end
noncomputable abbrev Sp:=List V->Hp->VK->XK->Prop
noncomputable abbrev CXT:=List Env->Hp->Shared->XK->Value->Shared->Prop
structure Env0 (P:Program) (w:World) (K:PySem.W.Frag) (mg:Str->Option Value) (base:Heap) (A:Around) (outer:List Env) (s:Shared) (H:Hp):Prop where
 frames:A.frames=some outer
 mod:Mod K mg base
 bs:∀b o,base.get? b=some o->s.heap.get? b=some o/\H b=none
 bsz:base.objs.size<=s.heap.objs.size
 funs:s.heap.FunFrames base outer
 frf:∀b∈frs outer,H b=none
 hok:HOk P w H s.heap
 bare:AllBare s.gens
inductive CE (outer:List Env) (P:Program) (w:World) (H:Hp) (s:Shared) (Q:VK) (u:Value) (s':Shared):Prop
 |mk (v:V) (H':Hp) (os:s'.os=s.os) (bare:AllBare s'.gens) (un:Un (frs outer) [] H H' s.heap s'.heap) (hok:HOk P w H' s'.heap) (r:RelV v u) (q:Q v H'):CE outer P w H s Q u s'
noncomputable def CR (CX:CXT) (outer:List Env) (P:Program) (w:World) (H:Hp) (s:Shared) (Q:VK) (E:XK) (r:Result) (s':Shared):Prop:=
 match r with
 | .ok (.ret u)=>CE outer P w H s Q u s'
 | .ok _=>False
 | .error e=>CX outer H s E e s'
structure FnOk (P:Program) (w:World) (K:PySem.W.Frag) (mg:Str->Option Value) (base:Heap) (CX:CXT) (k:Nat) (f:Addr) (fd:FuncData) (ps:List Str) (sp:Sp):Prop where
 len:∀vs H Q E,sp vs H Q E->vs.length=ps.length
 run:∀(A:Around) (outer:List Env) (s:Shared) (H:Hp) (args:Args) (us:List Value) (vs:List V) (Q:VK) (E:XK),Room k A->Env0 P w K mg base A outer s H->BindsTo s fd args (ps.zip us)->Vals vs us->sp vs H Q E->
  codeAny (model P w) A (.call (.ref f) args) (CR CX outer P w H s Q E) s
theorem FnOk.mono {P:Program} {w:World} {K:PySem.W.Frag} {mg:Str->Option Value} {base:Heap} {CX:CXT} {j k:Nat} {f:Addr} {fd:FuncData} {ps:List Str} {sp:Sp} (F:FnOk P w K mg base CX j f fd ps sp) (h:j<=k):
  FnOk P w K mg base CX k f fd ps sp:=⟨F.len,λ A outer s H args us vs Q E hr=>F.run A outer s H args us vs Q E (hr.mono h)⟩
section
variable {X:Cx} {pins:List (Addr×Obj)} {σ:St} {H:Hp} {s s':Shared}
theorem Inv.env0 (I:Inv X pins σ H s):Env0 X.prog X.w X.K X.mg X.base X.A X.stack s H:=
 ⟨I.ok.frames,I.ok.mod,I.bs,z0b I.ok.bsz I.sz,I.stack,I.stkFree,I.hok,I.bare⟩
theorem Inv.after {Q:VK} {u:Value} (I:Inv X pins σ H s) (h:CE X.stack X.prog X.w H s Q u s'):EP X pins σ Q u s':=by
 obtain⟨v,H',os,bare,un,hok,r,q⟩:=h
 obtain⟨hh,g,d,t,os'⟩:=s'
 obtain rfl:os'=s.os:=os
 exact⟨v,H',I.call (h':=hh) (g':=g) (d':=d) (t':=t) (ch:=[]) un hok bare (λ b z=>absurd z (by simp)),r,q⟩
end
noncomputable def tCall (sp:Sp) (dvs:List V) (E:XK) (t:TA):TE:=λ σ H Q=>t σ H λ vs H1=>sp (vs++dvs) H1 Q E
noncomputable def Binds (K:PySem.W.Frag) (fd:FuncData) (ps:List Str) (ds:List Value):Prop:=
 ∀(s:Shared) (us:List Value),K.In s.heap->(us++ds).length=ps.length->BindsTo s fd ⟨us,[]⟩ (ps.zip (us++ds))
theorem Binds.all {K:PySem.W.Frag} {fd:FuncData} {ps:List Str} (h:∀us:List Value,us.length=ps.length->bindArgs fd ⟨us,[]⟩=pure (ps.zip us)):Binds K fd ps []:=λ s us Z hl=>by
 rw[List.append_nil] at hl |-
 exact .of_eq (h us hl)
noncomputable def Passes (CX:CXT) (X:Cx) (E:XK):Prop:=∀(pins:List (Addr×Obj)) (σ:St) (H:Hp) (s:Shared) (e:Value) (s':Shared),Inv X pins σ H s->CX X.stack H s E e s'->X.xe e s'
section
variable {X:Cx} {CX:CXT} {k:Nat} {f C:Addr} {fd:FuncData} {ps:List Str} {sp:Sp} {dvs:List V} {ds:List Value} {E:XK} {x m:Str} {p pos apos:Pos} {e o:Expr} {es:List Expr} {ta:TE} {t:TA}
theorem run_fn {pins:List (Addr×Obj)} {σ:St} {H:Hp} {s:Shared} {Q:VK} {us:List Value} {vs:List V} (F:FnOk X.prog X.w X.K X.mg X.base CX k f fd ps sp) (hr:Room k X.A) (hb:Binds X.K fd ps ds) (hd:Vals dvs ds) (hx:Passes CX X E)
  (I:Inv X pins σ H s) (r:Vals vs us) (h:sp (vs++dvs) H Q E):wpAny (model X.prog X.w) X.A (call (.ref f) us) (EP X pins σ Q) X.xe s:=by
 have r2:Vals (vs++dvs) (us++ds):=r.append hd
 have hl:(us++ds).length=ps.length:=by rw[<-r2.length];exact F.len _ _ _ _ h
 refine wpAny_call (codeAny_mono (F.run X.A X.stack s H ⟨us,[]⟩ (us++ds) (vs++dvs) Q E hr I.env0 (hb s us I.kIn hl) r2 h) λ r s' hq=>?_)
 cases r with
 |error e=>exact hx pins σ H s e s' I hq
 | ok fl=>
  cases fl with
  |ret u=>exact I.after hq
  |next=>exact False.elim hq
  |brk=>exact False.elim hq
  |cont=>exact False.elim hq
theorem pe_call (F:FnOk X.prog X.w X.K X.mg X.base CX k f fd ps sp) (hr:Room k X.A) (hg:Gl X x) (hm:X.mg x=some (.ref f)) (hk:PySem.W.keepIn X.K (.ref f)=true) (hb:Binds X.K fd ps ds) (hd:Vals dvs ds) (hx:Passes CX X E)
  (ha:PA X (e::es) t) (hdb:autoParam ((x ==("__debug__" :Str))=false) eY._auto_1) (he:autoParam (starEach (e::es) X.env=(false,eval e X.env)::starEach es X.env) bD._auto_1) (hpl:autoParam ((backTo pos (starEach es X.env)).any (·.1)=false) bD._auto_1):
  PE X (.Call (.Name x p) (e::es) [] pos) (tCall sp dvs E t):=by
 intro pins s σ H Q I h
 refine wpAny_Call_Name_kw (ld_glob I hg hm ?_ hdb)
 refine PySem.W.callWith_K (h₀:=X.base) I.ok.mod.kin hk (thn (ha pos pins s σ H _ I h) λ us s1 ⟨vs,H1,I1,r,q⟩=>⟨I1.kIn,?_⟩) he hpl
 exact run_fn F hr hb hd hx I1 r q
end
noncomputable def PK (X:Cx) (kws:List Keyword) (t:TA):Prop:=
 ∀(pos:Pos) (pins:List (Addr×Obj)) (s:Shared) (σ:St) (H:Hp) (Q:List V->Hp->Prop),Inv X pins σ H s->t σ H Q->wpAny (model X.prog X.w) X.A (evalAll ((backToKw pos (keywordEach kws X.env)).map (·.2))) (AP X pins σ Q) X.xe s
section
variable {X:Cx} {CX:CXT} {k:Nat} {f C:Addr} {fd:FuncData} {ps ks:List Str} {sp:Sp} {E:XK} {x m:Str} {p pos apos kpos:Pos} {e o:Expr} {es:List Expr} {kws:List Keyword} {te ta:TE} {t tk:TA} {nm:Option Str}
theorem pk_nil:PK X [] tNil:=λ Z Z Z Z H Q I h=>wpAny_evalAll_nil ⟨[],H,I,.nil,h⟩
theorem pk_cons (ha:PE X e te) (hr:PK X kws t):PK X (⟨nm,e,kpos⟩::kws) (tCons te t):=by
 intro pos pins s σ H Q I h
 show wpAny _ _ (evalAll ((do let v <-eval e X.env;standAt pos;pure v)::(backToKw pos (keywordEach kws X.env)).map (·.2))) _ _ s
 refine wpAny_evalAll_cons (wpAny_bind (thn (ha pins s σ H _ I h) λ u s1 ⟨x,H1,I1,r1,q1⟩=>wpAny_bind (wpAny_standAt (wpAny_pure ?_))))
 refine thn (hr pos pins s1 σ H1 _ I1 q1) λ us s2 bW=>?_
 obtain⟨xs,H2,I2,r2,q2⟩:=bW
 exact⟨x::xs,H2,I2,.cons r1 r2,q2⟩
variable {g:List Value->List Value->List Value} {gV:List V->List V->List V}
end
structure FnScope (N P:List Str) (sc:Scope):Prop where
 kind:sc.kind= .function
 co:sc.isCoroutine=false
 gen:sc.isGenerator=false
 nd:N.Nodup
 pre:N.take P.length=P
 par:∀x∈P,sc.names.lookup x=some .local\/sc.names.lookup x=some .cell
 nofree:∀y∈sc.names,y.2≠.free
theorem bindL_out {kindOf:Str->Option NameKind} {x:Str}:∀{binds:List (Str×Value)} {m:Str->Option Value},(∀v,(x,v)∉binds)->bindL kindOf binds m x=m x
 |[],_,_=>rfl
 | (n,v)::r,m,h=>by
  unfold bindL
  rw[bindL_out λ w hw=>h w (z2f _ hw)]
  split
  ·have:x≠n:=by rintro rfl;exact h v List.mem_cons_self
   simp[this]
  ·rfl
theorem bindC_out {kindOf:Str->Option NameKind} {x:Str}:∀{binds:List (Str×Value)} {m:Str->Option Value},(∀v,(x,v)∉binds)->bindC kindOf binds m x=m x
 |[],_,_=>rfl
 | (n,v)::r,m,h=>by
  unfold bindC
  rw[bindC_out λ w hw=>h w (z2f _ hw)]
  split
  ·rfl
  ·have:x≠n:=by rintro rfl;exact h v List.mem_cons_self
   simp[this]
theorem bindL_get {kindOf:Str->Option NameKind} {x:Str} {v:Value}:∀{P:List Str} {vs:List Value} {i:Nat} {m:Str->Option Value},P.Nodup->P[i]?=some x->vs[i]?=some v->kindOf x=some .local->
  bindL kindOf (P.zip vs) m x=some v
 |[],_,_,_,_,h,_,_=>by simp at h
 |_::_,[],_,_,_,_,h,_=>by simp at h
 | p::P,w::vs,0,m,nd,h1,h2,hk=>by
  simp at h1 h2;subst h1;subst h2
  show bindL kindOf ((p,w)::P.zip vs) m p=_
  unfold bindL
  rw[bindL_out λ v hv=>(List.nodup_cons.mp nd).1 (List.of_mem_zip hv).1,if_pos hk]
  simp
 | p::P,w::vs,i+1,m,nd,h1,h2,hk=>by
  show bindL kindOf ((p,w)::P.zip vs) m x=_
  unfold bindL
  exact bindL_get (i:=i) (List.nodup_cons.mp nd).2 (by simpa using h1) (by simpa using h2) hk
theorem bindC_get {kindOf:Str->Option NameKind} {x:Str} {v:Value}:∀{P:List Str} {vs:List Value} {i:Nat} {m:Str->Option Value},P.Nodup->P[i]?=some x->vs[i]?=some v->kindOf x≠some .local->
  bindC kindOf (P.zip vs) m x=some v
 |[],_,_,_,_,h,_,_=>by simp at h
 |_::_,[],_,_,_,_,h,_=>by simp at h
 | p::P,w::vs,0,m,nd,h1,h2,hk=>by
  simp at h1 h2;subst h1;subst h2
  show bindC kindOf ((p,w)::P.zip vs) m p=_
  unfold bindC
  rw[bindC_out λ v hv=>(List.nodup_cons.mp nd).1 (List.of_mem_zip hv).1,if_neg hk]
  simp
 | p::P,w::vs,i+1,m,nd,h1,h2,hk=>by
  show bindC kindOf ((p,w)::P.zip vs) m x=_
  unfold bindC
  exact bindC_get (i:=i) (List.nodup_cons.mp nd).2 (by simpa using h1) (by simpa using h2) hk
noncomputable def start (N:List Str) (vs:List V):St:=vs.map some++List.replicate (N.length - vs.length) none
noncomputable def cxOf (CX:CXT) (P:Program) (w:World) (K:PySem.W.Frag) (mg:Str->Option Value) (base:Heap) (N:List Str) (qual:Str) (scope:Scope) (f:Addr) (cd:Value) (A:Around) (outer:List Env) (s:Shared) (H:Hp) (E:XK):Cx where
 prog:=P
 w:=w
 K:=K
 mg:=mg
 base:=base
 A:=A.deeper (envOfC qual scope s.heap.objs.size f cd)
 N:=N
 s₀:=s
 H₀:=H
 env:=envOfC qual scope s.heap.objs.size f cd
 outer:=outer
 stack:=envOfC qual scope s.heap.objs.size f cd::outer
 ex:=[]
 calm:=true
 fn:=λ Z=>true
 pn:=[]
 xe:=λ e s'=>wpAny (model P w) (A.deeper (envOfC qual scope s.heap.objs.size f cd)) (leaving (envOfC qual scope s.heap.objs.size f cd) e) (λ Z s''=>CX outer H s E e s'') (λ e' s''=>CX outer H s E e' s'') s'
theorem cell_has {sc:Scope} {n:Nat} {x:Str} (h:sc.names.lookup x=some .cell):∃c,(cellsFrom n sc.names []).lookup x=some c:=by
 have q:=PySem.W.cellsFrom_some sc.names n [] (.inl h)
 exact Option.isSome_iff_exists.mp q
theorem inv_start {CX:CXT} {P:Program} {w:World} {K:PySem.W.Frag} {mg:Str->Option Value} {base:Heap} {N ps:List Str} {qual:Str} {scope:Scope} {f:Addr} {cd:Value} {A:Around} {outer:List Env} {s s1:Shared} {H:Hp} {E:XK} {us:List Value} {vs:List V}
  (S:FnScope N ps scope) (hd:A.handled=none) (e0:Env0 P w K mg base A outer s H) (hl:vs.length=ps.length) (r:Vals vs us)
  (x:InCallC s s.heap.objs.size (bindL (envOfC qual scope s.heap.objs.size f cd).kindOf (ps.zip us) λ Z=>none) (cellsFrom (s.heap.objs.size+1) scope.names []) (bindC (envOfC qual scope s.heap.objs.size f cd).kindOf (ps.zip us) λ Z=>none) s1):
  Inv (cxOf CX P w K mg base N qual scope f cd A outer s H E) [] (start N vs) H s1:=by
 have hpl:ps.length<=N.length:=by have:=congrArg List.length S.pre;rw[List.length_take] at this;exact alW this
 obtain⟨h1,tk,rfl,hk⟩:=x.done
 have noA:∀b:Addr,b∉(cxOf CX P w K mg base N qual scope f cd A outer s H E).ex:=λ b z=>absurd (show b∈([]:List Addr) from z) (by simp)
 refine⟨⟨e0.mod,S.kind,rfl,rfl,z0g _,λ y z c h1 h2=>?_,λ y hy=>?_,λ y c Z h=>?_,λ Z=>hd,Around.frames_deeper e0.frames,.inr ⟨rfl,rfl⟩,λ b z=>absurd z (noA b),e0.bs,e0.bsz,λ b Z Z=>noA b,λ b z=>absurd z (noA b),e0.funs,e0.frf⟩,
  rfl,e0.bare,Un.kept hk,⟨_,x.toInCall.ns,λ i y v h1 h2 h3=>?_⟩,λ y c h=>⟨_,x.cell y c h⟩,e0.hok.fresh (z0g _),λ y c h=>?_,λ p hp=>absurd (show p∈([]:List (Addr×Obj)) from hp) (by simp),e0.hok.kept hk,?_⟩
 ·exact name_of_addr x.apart (PySem.mem_of_lookup h1) (PySem.mem_of_lookup h2)
 ·have hy:scope.names.lookup y=some .cell\/scope.names.lookup y=some .free:=hy
  rcases hy with hy |hy
  ·exact cell_has hy
  ·exact absurd rfl (S.nofree _ (PySem.mem_of_lookup hy))
 ·exact z0e (x.above y c (PySem.mem_of_lookup h))
 ·have hi:i < vs.length:=by
   unfold start at h2
   by_cases hi:i < vs.length
   ·exact hi
   ·rw[List.getElem?_append_right (by simpa using hi)] at h2
    rw[List.getElem?_replicate] at h2
    split at h2 <;> (first |(injection h2 with aD;injection aD) |injection h2)
  have ha:vs[i]?=some v:=by
   unfold start at h2
   rw[List.getElem?_append_left (by simpa using hi),z2b] at h2
   cases e:vs[i]? with
   |none=>rw[e] at h2;injection h2
   |some a=>rw[e] at h2;cases h2;rfl
  obtain⟨u,hu,rv⟩:=r.get ha
  have hp:ps[i]?=some y:=by
   rw[<-S.pre,List.getElem?_take_of_lt (by exact ain hi hl)];exact h1
  have ndP:ps.Nodup:=by rw[<-S.pre];exact S.nd.sublist (List.take_sublist _ _)
  refine⟨u,rv,?_⟩
  rcases S.par y (List.mem_of_getElem? hp) with k |k
  ·exact .inl ⟨k,bindL_get ndP hp hu k⟩
  ·obtain⟨c,e⟩:=cell_has (n:=s.heap.objs.size+1) k
   refine .inr ⟨.inl k,c,e,?_⟩
   have q:=x.cell y c e
   rw[bindC_get ndP hp hu (by show scope.names.lookup y≠_;rw[k];decide)] at q
   exact q
 ·exact e0.hok.fresh (z0e (x.above y c (PySem.mem_of_lookup h)))
 ·unfold start
  show _=N.length
  rw[z1d,z1g,List.length_replicate]
  exact alX hl hpl
theorem fn_of {CX:CXT} {P:Program} {w:World} {K:PySem.W.Frag} {mg:Str->Option Value} {base:Heap} {k:Nat} {f:Addr} {name qual:Str} {params:Arguments} {body:List Stmt} {scope:Scope} {dV kV doc pm cdv ct oc:Value} {an od:Option Addr}
  {osl:Array (Option Value)} {N ps:List Str} {sp:Sp} (lk:K.lookup f=some ⟨oc,od,.func (PySem.W.fnOf name qual params body scope dV kV doc pm an cdv ct),osl⟩) (hcd:PySem.W.codeIn K cdv qual=true) (S:FnScope N ps scope)
  (len:∀vs H Q E,sp vs H Q E->vs.length=ps.length)
  (hbody:∀(A:Around) (outer:List Env) (s:Shared) (H:Hp) (vs:List V) (Q:VK) (E:XK),Room k (A.deeper (envOfC qual scope s.heap.objs.size f cdv))->sp vs H Q E->
   ∃t,PSs (cxOf CX P w K mg base N qual scope f cdv A outer s H E) body t/\t {nx:=λ Z H'=>Q .non H',rt:=Q} (start N vs) H):
  FnOk P w K mg base CX (k+1) f (PySem.W.fnOf name qual params body scope dV kV doc pm an cdv ct) ps sp:=by
 refine⟨len,λ A outer s H args us vs Q E hr e0 hb r hsp=>?_⟩
 have hl:=len _ _ _ _ hsp
 have KX:K.In s.heap:=e0.mod.kin.keeps λ b o e=>(e0.bs b o e).1
 have lim:s.heap.NoLimit:=e0.mod.nolimit.keeps λ b o e=>(e0.bs b o e).1
 have hkind:∀y∈ps.zip us,scope.names.lookup y.1=some .local\/(scope.names.lookup y.1=some .cell/\((cellsFrom (s.heap.objs.size+1) scope.names []).lookup y.1).isSome=true):=λ ⟨n,v⟩ hy=>by
  rcases S.par n (List.of_mem_zip hy).1 with q |q
  ·exact .inl q
  ·exact .inr ⟨q,PySem.W.cellsFrom_some _ _ _ (.inl q)⟩
 refine codeAny_call_function hr.depth (KX _ _ lk) rfl S.co S.gen rfl (PySem.W.codeRec_of KX hcd) (hb _ _ _ _ ?_)
 refine wpAny_newFunctionEnv_cells S.kind hkind λ env he s1 x=>?_
 subst he
 refine⟨lim.keeps x.toInCall.keep,codeAny_func ?_⟩
 obtain⟨t,ht,hq⟩:=hbody A outer s H vs Q E (hr.deeper _) hsp
 have I:Inv (cxOf CX P w K mg base N qual scope f cdv A outer s H E) [] (start N vs) H s1:=inv_start S hr.hd e0 hl r x
 refine wpAny_mono (ht [] s1 (start N vs) H _ I hq) (λ fl s' hs=>?_) λ e s' hs=>hs
 have fin:∀{σ':St} {H':Hp} {v:V} {u:Value},Inv (cxOf CX P w K mg base N qual scope f cdv A outer s H E) [] σ' H' s'->RelV v u->Q v H'->CE outer P w H s Q u s':=
  λ {σ' H' v u} J rv q=>⟨v,H',J.os,J.bare,J.base,J.hok,rv,q⟩
 cases fl with
 | ret u=>
  obtain⟨v,σ',H',J,rv,q⟩:=hs
  exact fin J rv q
 | next=>
  obtain⟨σ',H',J,q⟩:=hs
  exact fin (v:=V.non) (u:=Value.none) J rfl q
 | brk=>
  obtain⟨_,_,_,q⟩:=hs
  exact False.elim q
 | cont=>
  obtain⟨_,_,_,q⟩:=hs
  exact False.elim q
section
variable {X:Cx} {x:Str} {p pos:Pos} {e:Expr} {es:List Expr} {t:TA} {id T:String} {r:List V->Hp->VK->Prop}
noncomputable def tCB (r:List V->Hp->VK->Prop) (t:TA):TE:=λ σ H Q=>t σ H λ vs H1=>r vs H1 Q
theorem pe_callB (hc:CallR X (.builtin id) r) (hg:Gl X x) (hm:X.mg x=none) (hv:bootBuiltins x=some (.builtin id)) (ha:PA X (e::es) t) (hn:autoParam (x≠"__name__") eY._auto_1) (hdb:autoParam ((x ==("__debug__" :Str))=false) eY._auto_1)
  (he:autoParam (starEach (e::es) X.env=(false,eval e X.env)::starEach es X.env) bD._auto_1) (hpl:autoParam ((backTo pos (starEach es X.env)).any (·.1)=false) bD._auto_1):PE X (.Call (.Name x p) (e::es) [] pos) (tCB r t):=by
 intro pins s σ H Q I h
 refine wpAny_Call_Name_kw (ld_blt I hg hm hv ?_ hn hdb)
 exact PyProof.Rows.callWith_builtin1 (thn (ha pos pins s σ H _ I h) λ us s1 ⟨vs,H1,I1,r1,q1⟩=>hc pins s1 σ H1 vs us Q I1 r1 q1) he hpl
theorem pe_callTy (hc:CallR X (.type T) r) (hg:Gl X x) (hm:X.mg x=none) (hv:bootBuiltins x=some (.type T)) (ha:PA X (e::es) t) (hn:autoParam (x≠"__name__") eY._auto_1) (hdb:autoParam ((x ==("__debug__" :Str))=false) eY._auto_1)
  (he:autoParam (starEach (e::es) X.env=(false,eval e X.env)::starEach es X.env) bD._auto_1) (hpl:autoParam ((backTo pos (starEach es X.env)).any (·.1)=false) bD._auto_1):PE X (.Call (.Name x p) (e::es) [] pos) (tCB r t):=by
 intro pins s σ H Q I h
 refine wpAny_Call_Name_kw (ld_blt I hg hm hv ?_ hn hdb)
 exact PyProof.Rows.callWith_type1 (thn (ha pos pins s σ H _ I h) λ us s1 ⟨vs,H1,I1,r1,q1⟩=>hc pins s1 σ H1 vs us Q I1 r1 q1) he hpl
end
end L2
namespace HT
open PySem PyProof.Rows
section
open PySem.SeqAt
open PySem.AutoSeq1 (wpAny_loadPart')
open PySem.MeetsSeq PySem.MeetsSeq2 PySem.MeetsSeq3
end
section
variable {prog:Program} {w:World} {A:Around} {E:Value->Shared->Prop} {s:Shared}
theorem cat_tup {t b:Addr} {vs ws:List Value} {Q:Value->Shared->Prop} (ht:IsTup s.heap t vs.toArray) (hb:IsTup s.heap b ws.toArray) (hv:vs≠[])
  (h1:ws=[]->Q (.ref t) s) (h2:ws≠[]->Q (.ref s.heap.objs.size) {s with heap:=s.heap.push {cls:= .type "tuple",data:= .seq (vs++ws).toArray}})
  (hsz:vs.length+ws.length<=sizeLine):wpAny (model prog w) A (binaryOp .Add (.ref t) (.ref b)) Q E s:=by
 refine bc λ zQ=>?_
 obtain⟨⟨cls,dd,data,sl⟩,ho,hc,n,hd⟩:=id ht
 obtain⟨⟨cls2,dd2,data2,sl2⟩,ho2,hc2,n2,hd2⟩:=id hb
 apply zQ;clear zQ
 simp only at hc hd hc2 hd2
 subst hc hd hc2 hd2
 have e:vs.toArray++ws.toArray=(vs++ws).toArray:=by simp
 by_cases hw:ws=[]
 ·exact concat_meets ⟨_,ho,rfl⟩ ⟨_,ho2,rfl⟩ noFill_tuple_add seq_tuple_add PySem.F.slot_tuple_add PySem.F.entry_tuple_add (PySem.F.args_tuple_add_2 _ _)
   (tuple_addW1 t b vs.toArray ws.toArray n n2 dd dd2 sl sl2 (by simpa using hv) (by simp[hw])) ⟨ho,ho2,h1 hw⟩
 ·refine concat_meets ⟨_,ho,rfl⟩ ⟨_,ho2,rfl⟩ noFill_tuple_add seq_tuple_add PySem.F.slot_tuple_add PySem.F.entry_tuple_add (PySem.F.args_tuple_add_2 _ _)
   (tuple_addW2 t b vs.toArray ws.toArray n n2 dd dd2 sl sl2 (by simpa using hv) (by simpa using hw) (by rw[z1c,z1c];exact hsz)) ⟨ho,ho2,?_⟩
  rw[e]
  exact h2 hw
noncomputable def sIx (n d:Nat):Option Int->Nat
 |none=>d
 |some v=>if v < 0 then (v+(n:Int)).toNat else min v.toNat n
theorem sIx_le (n d:Nat) (hd:d<=n) (o:Option Int):sIx n d o<=n:=by
 cases o with
 |none=>exact hd
 | some v=>
  show (if v < 0 then (v+(n:Int)).toNat else min v.toNat n)<=n
  by_cases hv:v < 0
  ·rw[if_pos hv];exact alY hv
  ·rw[if_neg hv];exact Nat.min_le_right _ _
theorem acX (a b:Nat):((min a b:Nat):Int)=min (a:Int) (b:Int):=by
 rcases Nat.le_total a b with h |h
 ·rw[Nat.min_eq_left h,Int.min_eq_left (Int.ofNat_le.mpr h)]
 ·rw[Nat.min_eq_right h,Int.min_eq_right (Int.ofNat_le.mpr h)]
theorem aiJ {i:Int} (n:Nat) (h:i < 0):max 0 (min (i+(n:Int)) (n:Int))=(((i+(n:Int)).toNat:Nat):Int):=by
 rw[Int.min_eq_left (by exact alZ h),Int.max_comm];exact (Int.ofNat_toNat _).symm
theorem aiK (k n:Nat):max 0 (min (k:Int) (n:Int))=((min (k:Int).toNat n:Nat):Int):=by
 rw[Int.max_eq_right (Int.le_min.mpr ⟨z0a _,z0a _⟩)];exact (acX k n).symm
theorem clip_eq (v:Int) (n d:Nat):(if v < 0 then max (v+(n:Int)) 0 else min v (n:Int))=((sIx n d (some v):Nat):Int):=by
 show (if v < 0 then max (v+(n:Int)) 0 else min v (n:Int))=(((if v < 0 then (v+(n:Int)).toNat else min v.toNat n):Nat):Int)
 by_cases hv:v < 0
 ·simp only[if_pos hv];exact (Int.ofNat_toNat _).symm
 ·simp only[if_neg hv]
  obtain⟨k,rfl⟩:=Int.eq_ofNat_of_zero_le (Int.not_lt.mp hv)
  exact (acX k n).symm
theorem adjust_gen (lo hi:Option Int) (n:Nat):Builtin.Slice.sliceAdjust lo hi 1 (n:Int)=(((sIx n 0 lo:Nat):Int),((sIx n n hi:Nat):Int)):=by
 have h1:¬((1:Int) < 0):=by exact al0
 unfold Builtin.Slice.sliceAdjust
 simp only[h1,if_false]
 refine Prod.ext ?_ ?_
 ·cases lo with
  |none=>rfl
  |some v=>exact clip_eq v n 0
 ·cases hi with
  |none=>rfl
  |some v=>exact clip_eq v n n
theorem places_gen (i j:Nat):Builtin.Slice.slicePlaces (i:Int) (j:Int) 1=j - i:=by
 unfold Builtin.Slice.slicePlaces
 have h1:(1:Int) > 0:=by exact z0a _
 simp only[h1,if_true,Int.ediv_one]
 split <;> (first |exact al1 |exact al2 (by assumption))
theorem slicePart_ {v:Value} {o:Option Int} {Q:Option Int->Shared->Prop} (p:IsPart v o) (h:Q o s):wpAny (model prog w) A (Builtin.Slice.slicePartIndex v) Q E s:=by
 cases p with
 |none=>exact slicePart_none h
 |int i t=>exact slicePart_int h
theorem sliceApplied_gen {sl:Addr} {vl vu:Value} {lo hi:Option Int} {n:Nat} {Q:Int×Int×Nat->Shared->Prop} (hs:s.heap.IsSliceOf sl vl vu .none) (pl:IsPart vl lo) (pu:IsPart vu hi)
  (h:Q (((sIx n 0 lo:Nat):Int),1,sIx n n hi - sIx n 0 lo) s):wpAny (model prog w) A (Builtin.Slice.sliceApplied (.ref sl) (pure (n:Int))) Q E s:=by
 obtain⟨os,hos,hcs,hds⟩:=id hs
 unfold Builtin.Slice.sliceApplied Builtin.Slice.sliceFields
 refine wpAny_bind (wpAny_bind (wpAny_field hos hds (x:=vl) rfl (wpAny_bind (wpAny_field hos hds (x:=vu) rfl (wpAny_bind (wpAny_field hos hds (x:= .none) rfl (wpAny_pure ?_)))))))
 refine wpAny_bind (slicePart_none ?_)
 show wpAny _ _ (if ((1:Int) ==0)=true then _ else _) _ _ s
 rw[if_neg (by decide)]
 refine wpAny_bind (slicePart_ pl (wpAny_bind (slicePart_ pu (wpAny_bind (wpAny_pure ?_)))))
 show wpAny _ _ (match Builtin.Slice.sliceAdjust lo hi 1 (n:Int) with |(lo,hi)=>pure (lo,(1:Int),Builtin.Slice.slicePlaces lo hi 1)) _ _ s
 rw[adjust_gen lo hi n]
 show wpAny _ _ (pure (((sIx n 0 lo:Nat):Int),(1:Int),Builtin.Slice.slicePlaces ((sIx n 0 lo:Nat):Int) ((sIx n n hi:Nat):Int) 1)) _ _ s
 rw[places_gen]
 exact wpAny_pure h
theorem pick_gen (xs:Array Value) (i k:Nat):((List.range k).filterMap λ (m:Nat)=>xs[((i:Int)+(m:Int)*1).toNat]?).toArray=((xs.toList.drop i).take k).toArray:=by
 have e:(λ (m:Nat)=>xs[((i:Int)+(m:Int)*1).toNat]?)=λ m=>xs[i+m]?:=by
  funext m
  have:((i:Int)+(m:Int)*1).toNat=i+m:=by exact al3
  rw[this]
 rw[e]
 have:=pick_run xs i k
 rw[List.filterMap_map] at this
 have e2:((λ x=>xs[x]?) ∘ λ x=>i+x)=λ m=>xs[i+m]?:=rfl
 rw[e2] at this
 rw[this]
theorem getItem_tuple_cut {t sl:Addr} {items:Array Value} {vl vu:Value} {lo hi:Option Int} {Q:Value->Shared->Prop} (ht:IsTup s.heap t items) (hs:s.heap.IsSliceOf sl vl vu .none) (pl:IsPart vl lo) (pu:IsPart vu hi)
  (hw:¬(sIx items.size 0 lo=0/\sIx items.size items.size hi=items.size))
  (h:Q (.ref s.heap.objs.size) {s with heap:=s.heap.push {cls:= .type "tuple",data:= .seq ((items.toList.drop (sIx items.size 0 lo)).take (sIx items.size items.size hi - sIx items.size 0 lo)).toArray}})
  (hsz:items.size<=sizeLine):wpAny (model prog w) A (getItem (.ref t) (.ref sl)) Q E s:=by
 have htake:sizeOk (.seq ((items.toList.drop (sIx items.size 0 lo)).take (sIx items.size items.size hi - sIx items.size 0 lo)).toArray):=by
  show ((items.toList.drop (sIx items.size 0 lo)).take (sIx items.size items.size hi - sIx items.size 0 lo)).toArray.size<=sizeLine
  rw[z1c,List.length_take,List.length_drop,Array.length_toList]
  exact al4 hsz
 have hj:sIx items.size items.size hi<=items.size:=sIx_le _ _ (z0g _) hi
 obtain⟨os,hos,hcs,hds⟩:=id hs
 have hTs:s.TypeIs (.ref sl) "slice" :=⟨os,hos,hcs⟩
 unfold getItem
 try with_reducible refine wpAny_holding ?_
 first |refine wpAny_bind (wpAny_pure ?_) |skip
 refine wpAny_bind (wpAny_sequenceKey ht.typeIs (by decide) ?_)
 refine wpAny_bind (wpAny_callSpecial?_slot (name:=Str.ofString "__getitem__") ht.typeIs PyProof.Rows.slot_tuple_getitem
  (wpAny_call_entry PyProof.Rows.slot_tuple_getitem ht.typeIs entry_tuple_getitem ?_ (args_tuple_getitem _ _)))
 show wpAny _ _ (Builtin.Tuple.tupleItemsOf (.ref t) >>=_) _ _ s
 refine wpAny_bind (tupleItemsOf_ ht ?_)
 refine wpAny_bind (wpAny_typeOf hTs ?_)
 rw[if_pos (by decide)]
 refine wpAny_bind (sliceApplied_gen hs pl pu ?_)
 have hno:¬((((sIx items.size 0 lo:Nat):Int) ==0 && (1:Int) ==1 && (sIx items.size items.size hi - sIx items.size 0 lo) ==items.size)=true):=by
  intro q
  rw[Bool.and_eq_true,Bool.and_eq_true] at q
  have q1:((sIx items.size 0 lo:Nat):Int)=0:=eq_of_beq q.1.1
  have q2:sIx items.size items.size hi - sIx items.size 0 lo=items.size:=eq_of_beq q.2
  exact hw ⟨by exact al6 q1,by exact al5 q2 hj⟩
 show wpAny _ _ (if (((sIx items.size 0 lo:Nat):Int) ==0 && (1:Int) ==1 && (sIx items.size items.size hi - sIx items.size 0 lo) ==items.size)=true then _ else _) _ _ s
 rw[if_neg hno,pick_gen]
 first
  |exact wpAny_bind (m:=Builtin.Tuple.tupleExact _) (wpAny_newObj_type (wpAny_pure ⟨_,rfl,wpAny_pure h⟩) htake)
  |exact wpAny_bind (m:=Builtin.Tuple.tupleExact _) (wpAny_newObj_type (wpAny_bind (wpAny_pure (wpAny_pure ⟨_,rfl,wpAny_pure h⟩))) htake)
  |exact wpAny_bind (wpAny_bind (m:=Builtin.Tuple.tupleExact _) (wpAny_newObj_type (wpAny_pure (wpAny_pure ⟨_,rfl,wpAny_pure h⟩)) htake))
  |exact wpAny_bind (wpAny_bind (m:=Builtin.Tuple.tupleExact _) (wpAny_newObj_type (wpAny_pure ⟨_,rfl,wpAny_pure h⟩) htake))
end
end HT
namespace L2
open PySem PySem.Spec PyProof.Rows
noncomputable abbrev TO:=St->Hp->(Option Int->Hp->Prop)->Prop
noncomputable def PO (X:Cx) (e:Option Expr) (t:TO):Prop:=
 ∀ (pins:List (Addr×Obj)) (s:Shared) (σ:St) (H:Hp) (Q:Option Int->Hp->Prop),Inv X pins σ H s->t σ H Q->
  wpAny (model X.prog X.w) X.A (evalPart e X.env) (λ u s'=>∃o H',Inv X pins σ H' s'/\IsPart u o/\Q o H') X.xe s
noncomputable def tNoPart:TO:=λ Z H Q=>Q none H
noncomputable def tPart (t:TE):TO:=λ σ H Q=>t σ H λ x H1=>∃i,x= .int i/\Q (some i) H1
theorem intsAre_of {ns:List Int}:∀{us:List Value},Vals (ns.map V.int) us->IntsAre us ns:=by
 induction ns with
 |nil=>intro us r;rw[List.map_nil] at r;cases r;exact .nil
 | cons n ns ih=>
  intro us r
  rw[z1h] at r
  cases r with
  | cons r1 r2=>
   obtain⟨t,e⟩:=r1
   subst e
   exact .cons n t (ih r2)
section
variable {X:Cx} {e:Expr} {te:TE} {lo hi:Option Expr} {tl th:TO} {pos p2:Pos}
theorem po_none:PO X none tNoPart:=by
 intro pins s σ H Q I h
 rw[evalPart_none]
 exact wpAny_pure ⟨none,H,I,.none,h⟩
theorem po_some (h:PE X e te):PO X (some e) (tPart te):=by
 intro pins s σ H Q I hw
 rw[evalPart_some]
 refine thn (h pins s σ H _ I hw) λ u s1 bW=>?_
 obtain⟨x,H1,I1,r1,q1⟩:=bW
 obtain⟨i,rfl,q⟩:=q1
 obtain⟨t,rfl⟩:=r1
 exact⟨some i,H1,I1,.int i t,q⟩
noncomputable def SlR (X:Cx) (r:V->Option Int->Option Int->Hp->VK->Prop):Prop:=
 ∀ (pins:List (Addr×Obj)) (s:Shared) (σ:St) (H:Hp) (x:V) (v vl vu:Value) (lo hi:Option Int) (sl:Addr) (Q:VK),Inv X pins σ H s->RelV x v->s.heap.IsSliceOf sl vl vu .none->IsPart vl lo->IsPart vu hi->r x lo hi H Q->
  ∃T id,typeLookup (.type T) "__getitem__" =pure (some (.builtin id))/\s.TypeIs v T/\wpAny (model X.prog X.w) X.A (getItem v (.ref sl)) (EP X pins σ Q) X.xe s
theorem SlR.or {r r':V->Option Int->Option Int->Hp->VK->Prop} (h:SlR X r) (h':SlR X r'):SlR X (λ x lo hi H Q=>r x lo hi H Q\/r' x lo hi H Q):=by
 intro pins s σ H x v vl vu lo hi sl Q I rx hs pl pu q
 rcases q with q |q
 ·exact h pins s σ H x v vl vu lo hi sl Q I rx hs pl pu q
 ·exact h' pins s σ H x v vl vu lo hi sl Q I rx hs pl pu q
noncomputable def tSl (r:V->Option Int->Option Int->Hp->VK->Prop) (te:TE) (tl th:TO):TE:=λ σ H Q=>te σ H λ x H1=>tl σ H1 λ l H2=>th σ H2 λ u H3=>r x l u H3 Q
theorem pe_slice {r:V->Option Int->Option Int->Hp->VK->Prop} (hr:SlR X r) (he:PE X e te) (hl:PO X lo tl) (hu:PO X hi th):PE X (.Subscript e (.Slice lo hi none p2) pos) (tSl r te tl th):=by
 intro pins s σ H Q I h
 refine Subscript_ (thn (he pins s σ H _ I h) λ v s1 bW=>?_)
 refine bc λ zQ=>?_
 obtain⟨x,H1,I1,r1,q1⟩:=bW
 apply zQ;clear zQ
 refine wpAny_Slice (thn (hl pins s1 σ H1 _ I1 q1) λ vl s2 ⟨l,H2,I2,pl,q2⟩=>thn (hu pins s2 σ H2 _ I2 q2) λ vu s3 bW=>?_)
 refine bc λ zQ=>?_
 obtain⟨u,H3,I3,pu,q3⟩:=bW
 apply zQ;clear zQ
 rw[evalPart_none]
 refine wpAny_pure ?_
 have I4:Inv X pins σ H3 {s3 with heap:=s3.heap.push {cls:= .type "slice",data:= .fields #[vl,vu,.none]}}:=I3.kept (t':=s3.toks) λ b ob q=>z1a _ q
 refine bc λ zQ=>?_
 obtain⟨T,id,hT,ht,hg⟩:=hr pins {s3 with heap:=s3.heap.push {cls:= .type "slice",data:= .fields #[vl,vu,.none]}} σ H3 x v vl vu l u s3.heap.objs.size Q I4 r1 (Heap.IsSliceOf.new ..) pl pu q3
 apply zQ;clear zQ
 show wpAny (model X.prog X.w) X.A (subscriptTail e (.Slice lo hi none p2) v (.ref s3.heap.objs.size)) (EP X pins σ Q) X.xe {s3 with heap:=s3.heap.push {cls:= .type "slice",data:= .fields #[vl,vu,.none]}}
 exact tail_any (ops:=[.ref s3.heap.objs.size,v]) ht hT hg (by with_unfolding_all rfl)
noncomputable def cutV (xs:List V) (lo hi:Option Int):List V:=(xs.drop (HT.sIx xs.length 0 lo)).take (HT.sIx xs.length xs.length hi - HT.sIx xs.length 0 lo)
theorem cutV_length (xs:List V) (lo hi:Option Int):(cutV xs lo hi).length<=xs.length:=by
 unfold cutV
 rw[List.length_take,List.length_drop]
 exact al7
noncomputable def rSlT (K:PySem.W.Frag):V->Option Int->Option Int->Hp->VK->Prop:=λ x lo hi H Q=>∃a xs,x= .ref a/\SqT K H a xs/\
 ¬(HT.sIx xs.length 0 lo=0/\HT.sIx xs.length xs.length hi=xs.length)/\∀p,H p=none->Q (.ref p) (upd H p (.tup (cutV xs lo hi)))
theorem sl_tup:SlR X (rSlT X.K):=by
 intro pins s σ H x v vl vu lo hi sl Q I rx hs pl pu h
 refine bc λ zQ=>?_
 obtain⟨a,xs,rfl,hx,hw,q⟩:=h
 apply zQ;clear zQ
 obtain rfl:=rx
 refine bc λ zQ=>?_
 obtain⟨its,r,ht,hz⟩:=I.tuple hx
 apply zQ;clear zQ
 have hlen:its.toArray.size=xs.length:=by rw[z1c];exact r.length.symm
 refine⟨"tuple",_,PyProof.Rows.slot_tuple_getitem.lookup,ht.typeIs,?_⟩
 refine HT.getItem_tuple_cut ht hs pl pu (by rw[hlen];exact hw) ?_ (by rw[hlen];exact hz)
 rw[hlen]
 refine⟨.ref s.heap.objs.size,_,I.laid (t':=s.toks) (o:= .tup (cutV xs lo hi)) (λ b ob q=>z1a _ q) (z0g _) ?_,rfl,q _ (I.hok.fresh (z0g _))⟩
 exact⟨z0b (cutV_length xs lo hi) hz,_,(r.drop (HT.sIx xs.length 0 lo)).take (HT.sIx xs.length xs.length hi - HT.sIx xs.length 0 lo),IsTup.new _ _⟩
noncomputable def rCatT (K:PySem.W.Frag):R2:=λ x y H Q=>∃a b xs ys,x= .ref a/\y= .ref b/\SqT K H a xs/\SqT K H b ys/\xs≠[]/\xs.length+ys.length<=sizeLine/\
 (ys=[]->Q (.ref a) H)/\(ys≠[]->∀p,H p=none->Q (.ref p) (upd H p (.tup (xs++ys))))
theorem Vals.nil_iff {xs:List V} {us:List Value} (r:Vals xs us):us=[]↔xs=[]:=by
 cases r with
 |nil=>simp
 |cons _ _=>simp
theorem op_catT:OpR X (binaryOp .Add) (rCatT X.K):=by
 intro pins s σ H x y v u Q I rx ry h
 refine bc λ zQ=>?_
 obtain⟨a,b,xs,ys,rfl,rfl,ha,hb,hx,hz,q1,q2⟩:=h
 apply zQ;clear zQ
 obtain rfl:=rx
 obtain rfl:=ry
 refine bc λ zQ=>?_
 obtain⟨its,r1,p1,_⟩:=I.tuple ha
 obtain⟨its2,r2,p2,_⟩:=I.tuple hb
 apply zQ;clear zQ
 refine HT.cat_tup p1 p2 (λ z=>hx (r1.nil_iff.mp z)) (λ z=>⟨.ref a,H,I,rfl,q1 (r2.nil_iff.mp z)⟩) (λ z=>?_) (by rw[<-r1.length,<-r2.length];exact hz)
 refine⟨.ref s.heap.objs.size,_,I.laid (t':=s.toks) (o:= .tup (xs++ys)) (λ b ob q=>z1a _ q) (z0g _) ?_,rfl,q2 (λ w=>z (r2.nil_iff.mpr w)) _ (I.hok.fresh (z0g _))⟩
 exact⟨by rw[z1d];exact hz,_,r1.append r2,IsTup.new _ _⟩
end
noncomputable def ixN (n:Nat) (i:Int):Option Nat:=if 0<=i then (if i < n then some i.toNat else none) else if -(n:Int)<=i then some (i+n).toNat else none
noncomputable def atI {α:Type} (xs:List α) (i:Int):Option α:=(ixN xs.length i).bind λ j=>xs[j]?
theorem ixN_seq {n:Nat} {i:Int} {j:Nat} (h:ixN n i=some j):seqIndex? i n=some j/\j < n/\-(n:Int)<=i/\i < n:=by
 unfold ixN at h
 by_cases h0:0<=i
 ·rw[if_pos h0] at h
  by_cases h1:i < n
  ·rw[if_pos h1] at h
   have e:i.toNat=j:=Option.some.inj h
   exact⟨by rw[seqIndex_of h0 h1,e],by exact al9 h0 e h1,by exact al8 h0,h1⟩
  ·rw[if_neg h1] at h;injection h
 ·rw[if_neg h0] at h
  by_cases h1: -(n:Int)<=i
  ·rw[if_pos h1] at h
   have e:(i+n).toNat=j:=Option.some.inj h
   exact⟨by rw[seqIndex_neg (by exact Int.not_le.mp h0) h1,e],by exact amb h1 e h0,h1,by exact ama h0⟩
  ·rw[if_neg h1] at h;injection h
theorem atI_get {α:Type} {xs:List α} {i:Int} {v:α} (h:atI xs i=some v):∃j,seqIndex? i xs.length=some j/\xs[j]?=some v/\j < xs.length/\-(xs.length:Int)<=i/\i < xs.length:=by
 unfold atI at h
 cases e:ixN xs.length i with
 |none=>rw[e] at h;injection h
 | some j=>
  rw[e] at h
  obtain⟨h1,h2,h3,h4⟩:=ixN_seq e
  exact⟨j,h1,h,h2,h3,h4⟩
noncomputable def PlainIx (b:Expr):Prop:=∀o i,subscripted b false o i=operate [o,i] (getItem o i)
noncomputable def IxR (X:Cx) (r:R2):Prop:=
 ∀ (value slice:Expr) (pins:List (Addr×Obj)) (s:Shared) (σ:St) (H:Hp) (x y:V) (v u:Value) (Q:VK),Inv X pins σ H s->RelV x v->RelV y u->r x y H Q->
  subscripted slice false v u=operate [v,u] (getItem v u)->wpAny (model X.prog X.w) X.A (subscriptTail value slice v u) (EP X pins σ Q) X.xe s
noncomputable def MtR (X:Cx) (id:String) (r:V->List V->Hp->VK->Prop):Prop:=
 ∀ (pins:List (Addr×Obj)) (s:Shared) (σ:St) (H:Hp) (x:V) (xs:List V) (v:Value) (us:List Value) (Q:VK),Inv X pins σ H s->RelV x v->Vals xs us->r x xs H Q->
  wpAny (model X.prog X.w) X.A (call (.builtin id) (v::us)) (EP X pins σ Q) X.xe s
section
variable {X:Cx} {a b:Expr} {ta tb:TE} {pos:Pos}
theorem IxR.or {r r':R2} (h:IxR X r) (h':IxR X r'):IxR X (λ x y H Q=>r x y H Q\/r' x y H Q):=by
 intro value slice pins s σ H x y v u Q I rx ry q hs
 rcases q with q |q
 ·exact h value slice pins s σ H x y v u Q I rx ry q hs
 ·exact h' value slice pins s σ H x y v u Q I rx ry q hs
theorem pe_ix {r:R2} (hr:IxR X r) (ha:PE X a ta) (hb:PE X b tb) (hs:PlainIx b):PE X (.Subscript a b pos) (tOp r ta tb):=by
 intro pins s σ H Q I h
 exact Subscript_ (binT ha hb I h λ v u s2 x y H2 I2 rx ry q=>hr a b pins s2 σ H2 x y v u Q I2 rx ry q (hs _ _))
noncomputable def rIxL (K:PySem.W.Frag):R2:=λ x y H Q=>∃p xs i v,x= .ref p/\y= .int i/\SqL K H p xs/\atI xs i=some v/\Q v H
noncomputable def rIxT (K:PySem.W.Frag):R2:=λ x y H Q=>∃p xs i v,x= .ref p/\y= .int i/\SqT K H p xs/\atI xs i=some v/\Q v H
noncomputable def rIxS:R2:=λ x y H Q=>∃z i c,x= .str z/\y= .int i/\z.length<=sizeLine/\atI z.cps.toList i=some c/\Q (.str ⟨#[c]⟩) H
theorem ix_list:IxR X (rIxL X.K):=by
 intro value slice pins s σ H x y v u Q I rx ry h hs
 refine bc λ zQ=>?_
 obtain⟨p,xs,i,z,rfl,rfl,hq,he,q⟩:=h
 apply zQ;clear zQ
 obtain rfl:=rx
 refine bc λ zQ=>?_
 obtain⟨t,rfl⟩:=ry
 obtain⟨its,r,pl,hz⟩:=I.list hq
 obtain⟨j,h1,h2,h3,h4,h5⟩:=atI_get he
 obtain⟨w,ew,rw'⟩:=r.get h2
 apply zQ;clear zQ
 have hl:=r.length
 have hn:=line63
 have fin:EP X pins σ Q w s:=⟨z,H,I,rw',q⟩
 by_cases h0:0<=i
 ·have hj:i.toNat=j:=by
   rw[seqIndex_of h0 h5] at h1
   exact Option.some.inj h1
  exact item_listR pl.isList h0 (by exact agC h5 hz hn) (by rw[hj];simpa using ew) fin hs
 ·have hj:(i+(its.toArray.size:Int)).toNat=j:=by
   rw[seqIndex_neg (by exact Int.not_le.mp h0) h4] at h1
   rw[z1c,<-hl]
   exact Option.some.inj h1
  exact subscriptTail_builtinR (x:=w) pl.isList.typeIs slot_list_getitem.lookup
   (wpAny_getItem_list_neg (Q:=λ r s'=>r=w/\EP X pins σ Q r s') pl.isList (by exact Int.not_le.mp h0) (by rw[z1c] <;> exact amc h4 hl) (by exact agD h4 hz hn) (by rw[hj];simpa using ew) ⟨rfl,fin⟩) hs
theorem ix_tup:IxR X (rIxT X.K):=by
 intro value slice pins s σ H x y v u Q I rx ry h hs
 refine bc λ zQ=>?_
 obtain⟨p,xs,i,z,rfl,rfl,hq,he,q⟩:=h
 apply zQ;clear zQ
 obtain rfl:=rx
 refine bc λ zQ=>?_
 obtain⟨t,rfl⟩:=ry
 obtain⟨its,r,pl,hz⟩:=I.tuple hq
 obtain⟨j,h1,h2,h3,h4,h5⟩:=atI_get he
 obtain⟨w,ew,rw'⟩:=r.get h2
 apply zQ;clear zQ
 have hl:=r.length
 have hn:=line63
 have fin:EP X pins σ Q w s:=⟨z,H,I,rw',q⟩
 exact subscriptTail_builtinR (x:=w) pl.typeIs slot_tuple_getitem.lookup
  (getItem_tuple (j:=j) (Q:=λ r s'=>r=w/\EP X pins σ Q r s') pl (by exact agD h4 hz hn) (by exact agC h5 hz hn) (by rw[z1c,<-hl];exact h1) (by simpa using ew) ⟨rfl,fin⟩) hs
theorem ix_str:IxR X rIxS:=by
 intro value slice pins s σ H x y v u Q I rx ry h hs
 refine bc λ zQ=>?_
 obtain⟨z,i,c,rfl,rfl,hz,he,q⟩:=h
 obtain⟨t,rfl⟩:=rx
 obtain⟨t',rfl⟩:=ry
 obtain⟨j,h1,h2,h3,h4,h5⟩:=atI_get he
 apply zQ;clear zQ
 have hl:z.cps.toList.length=z.length:=by simp[Str.length]
 rw[hl] at h1 h4 h5
 have hn:=line63
 exact tail_any (typeIs_str s z t) slot_str_getitem.lookup (getItem_str (c:=c) (by
  have e1:decide (i < -(2 ^ 63:Int))=false:=decide_eq_false (by exact alu h4 hz hn)
  have e2:decide (i>=2 ^ 63)=false:=decide_eq_false (by exact alv h5 hz hn)
  rw[e1,e2,Bool.or_false]) (by rw[h1];simpa using h2) ⟨.str ⟨#[c]⟩,H,I.tok _,⟨_,rfl⟩,q⟩) hs
noncomputable def rIx (K:PySem.W.Frag):R2:=λ x y H Q=>rIxL K x y H Q\/rIxT K x y H Q\/rIxS x y H Q
theorem ix_seq:IxR X (rIx X.K):=ix_list.or (ix_tup.or ix_str)
theorem Inv.lst {pins:List (Addr×Obj)} {σ:St} {H:Hp} {s:Shared} {p:Addr} {xs:List V} (I:Inv X pins σ H s) (h:H p=some (.lst xs)):
  ∃(its:List Value) (n:Nat),Vals xs its/\s.heap.get? p=some {cls:= .type "list",data:= .seq its.toArray n}/\xs.length<=sizeLine:=by
 obtain⟨z,its,n,r,e⟩:=I.hok p _ h
 exact⟨its,n,r,e,z⟩
theorem slice_bounds (lo hi:Option Int) (n:Nat):(sliceBounds lo hi none n).1=((HT.sIx n 0 lo:Nat):Int)/\(sliceBounds lo hi none n).2.1=((HT.sIx n n hi:Nat):Int)/\(sliceBounds lo hi none n).2.2=1:=by
 refine⟨?_,?_,rfl⟩
 ·cases lo with
  |none=>simp[sliceBounds,HT.sIx]
  | some i=>
   simp only[sliceBounds,HT.sIx,Option.getD_none,show (1:Int) > 0 by decide,if_true]
   by_cases h:i < 0
   ·simp only[h,if_true];exact HT.aiJ n h
   ·simp only[h,if_false]
    obtain⟨k,rfl⟩:=Int.eq_ofNat_of_zero_le (Int.not_lt.mp h)
    exact HT.aiK k n
 ·cases hi with
  |none=>simp[sliceBounds,HT.sIx]
  | some i=>
   simp only[sliceBounds,HT.sIx,Option.getD_none,show (1:Int) > 0 by decide,if_true]
   by_cases h:i < 0
   ·simp only[h,if_true];exact HT.aiJ n h
   ·simp only[h,if_false]
    obtain⟨k,rfl⟩:=Int.eq_ofNat_of_zero_le (Int.not_lt.mp h)
    exact HT.aiK k n
theorem slicePick_cut (its:List Value) (lo hi:Option Int):slicePick its.toArray lo hi none=((its.drop (HT.sIx its.length 0 lo)).take (HT.sIx its.length its.length hi - HT.sIx its.length 0 lo)).toArray:=by
 obtain⟨h1,h2,h3⟩:=slice_bounds lo hi its.toArray.size
 unfold slicePick
 rw[h1,h2,h3]
 simp only[sliceRange_one,pick_run,z1c] <;> rfl
noncomputable def rSlL (K:PySem.W.Frag):V->Option Int->Option Int->Hp->VK->Prop:=λ x lo hi H Q=>∃a xs,x= .ref a/\SqL K H a xs/\∀p,H p=none->Q (.ref p) (upd H p (.lst (cutV xs lo hi)))
theorem sl_list:SlR X (rSlL X.K):=by
 intro pins s σ H x v vl vu lo hi sl Q I rx hs pl pu h
 obtain⟨a,xs,rfl,hx,q⟩:=h
 obtain rfl:=rx
 obtain⟨its,r,ht,hz⟩:=I.list hx
 have hlen:=r.length
 refine⟨"list",_,slot_list_getitem.lookup,ht.isList.typeIs,?_⟩
 refine wpAny_getItem_list_slice ht.isList hs pl pu .none (by simp) ?_ (by rw[z1c] <;> exact QZ hlen hz)
 rw[slicePick_cut,<-hlen]
 refine⟨.ref s.heap.objs.size,_,I.laid (t':=s.toks) (o:= .lst (cutV xs lo hi)) (λ b ob q=>z1a _ q) (z0g _) ?_,rfl,q _ (I.hok.fresh (z0g _))⟩
 exact⟨z0b (cutV_length xs lo hi) hz,_,0,(r.drop (HT.sIx xs.length 0 lo)).take (HT.sIx xs.length xs.length hi - HT.sIx xs.length 0 lo),z1f _ rfl⟩
theorem call_len_seq:CallR X (.builtin "len") (λ xs H Q=>∃p ys,xs=[.ref p]/\(SqL X.K H p ys\/SqT X.K H p ys)/\Q (.int ys.length) H):=by
 intro pins s σ H xs us Q I r h
 obtain⟨p,ys,rfl,hq,q⟩:=h
 obtain⟨u,rfl,rx⟩:=vals1 r
 obtain rfl:=rx
 have hn:=line63
 rcases hq with hq |hq
 ·obtain⟨its,r',pl,hz⟩:=I.list hq
  have hlen:=r'.length
  exact Calls.call_len_list pl.isList (by simp only[z1c] <;> omega) ⟨.int ys.length,H,I.tok _,⟨s.toks+1,by rw[z1c,hlen]⟩,q⟩
 ·obtain⟨its,r',pl,hz⟩:=I.tuple hq
  have hlen:=r'.length
  exact len_tuple pl (by simp only[z1c] <;> omega) ⟨.int ys.length,H,I.tok _,⟨s.toks+1,by rw[z1c,hlen]⟩,q⟩
theorem call_list_of:CallR X (.type "list") (λ xs H Q=>∃p ys,xs=[.ref p]/\(SqL X.K H p ys\/SqT X.K H p ys)/\∀l,H l=none->Q (.ref l) (upd H l (.lst ys))):=by
 intro pins s σ H xs us Q I r h
 obtain⟨p,ys,rfl,hq,q⟩:=h
 obtain⟨u,rfl,rx⟩:=vals1 r
 cases rx
 have fin:∀(its:List Value),Vals ys its->ys.length<=sizeLine->∀(h':Heap) (c':Nat),(∀b o',s.heap.get? b=some o'->h'.get? b=some o')->
   h'.get? s.heap.objs.size=some {cls:= .type "list",dict:=none,data:= .seq its.toArray c',slots:= #[]}->EP X pins σ Q (.ref s.heap.objs.size) {s with heap:=h'}:=λ its r' hz h' c' kp e=>
  ⟨.ref s.heap.objs.size,_,I.laid (t':=s.toks) kp (z0g _) (show ObjOk X.prog X.w _ h' _ (.lst ys) from ⟨hz,its,c',r',e⟩),rfl,q _ (I.hok.fresh (z0g _))⟩
 rcases hq with hq |hq
 ·obtain⟨its,r',pl,hz⟩:=I.list hq
  have hlen:=r'.length
  obtain⟨o,ho,hc,n,hd⟩:=pl.isList
  exact call_list_seq p (.inl rfl) ho hc hd (λ h' c' kp e=>fin its r' hz h' c' kp e) (by simp only[z1c] <;> omega)
 ·obtain⟨its,r',pl,hz⟩:=I.tuple hq
  have hlen:=r'.length
  obtain⟨o,ho,hc,n,hd⟩:=pl
  exact call_list_seq p (.inr rfl) ho hc hd (λ h' c' kp e=>fin its r' hz h' c' kp e) (by simp only[z1c] <;> omega)
theorem call_tuple_of:CallR X (.type "tuple") (λ xs H Q=>∃p ys,xs=[.ref p]/\((SqL X.K H p ys/\∀l,H l=none->Q (.ref l) (upd H l (.tup ys)))\/(SqT X.K H p ys/\Q (.ref p) H))):=by
 intro pins s σ H xs us Q I r h
 obtain⟨p,ys,rfl,h⟩:=h
 obtain⟨u,rfl,rx⟩:=vals1 r
 obtain rfl:=rx
 rcases h with⟨hq,q⟩ |⟨hq,q⟩
 ·obtain⟨its,r',pl,hz⟩:=I.list hq
  have hlen:=r'.length
  refine call_tuple_list pl.isList (λ h' kp=>?_) (by simp only[z1c] <;> exact QZ hlen hz)
  have I1:Inv X pins σ H {s with heap:=h'}:=I.kept (t':=s.toks) kp
  have I2:Inv X pins σ (upd H h'.objs.size (.tup ys)) {s with heap:=h'.push {cls:= .type "tuple",data:= .seq its.toArray}}:=
   I1.laid (t':=s.toks) (λ b o e=>z1a _ e) (z0g _) (show ObjOk X.prog X.w _ _ _ (.tup ys) from ⟨hz,its,r',IsTup.new _ _⟩)
  exact⟨.ref h'.objs.size,_,I2,rfl,q _ (I1.hok.fresh (z0g _))⟩
 ·obtain⟨its,r',pl,hz⟩:=I.tuple hq
  exact call_tuple_same pl ⟨.ref p,H,I,rfl,q⟩
noncomputable def tyV (K:PySem.W.Frag) (T:String) (x:V) (H:Hp):Prop:=match x with
 | .str _=>T= "str"
 | .int _=>T= "int"
 | .ref p=>(T= "list"/\∃xs,SqL K H p xs)\/(T= "tuple"/\∃o,K.lookup p=some o/\o.cls= .type "tuple"/\o.dict=none)\/
   (T= "dict"/\((∃kvs,H p=some (.dK kvs))\/∃kvs,H p=some (.dT kvs)))\/(T= "set"/\∃S n,H p=some (.set S n))
 |_=>False
theorem tyV_is {pins:List (Addr×Obj)} {σ:St} {H:Hp} {s:Shared} {T:String} {x:V} {v:Value} (I:Inv X pins σ H s) (r:RelV x v) (ty:tyV X.K T x H):
  s.TypeIs v T/\∀a,v= .ref a->∃ob,s.heap.get? a=some ob/\ob.dict=none:=by
 cases x with
 | str z=>
  obtain⟨t,rfl⟩:=r
  obtain rfl:T= "str" :=ty
  exact⟨typeIs_str s z t,λ Z e=>nomatch e⟩
 | int i=>
  obtain⟨t,rfl⟩:=r
  obtain rfl:T= "int" :=ty
  exact⟨typeIs_int s i t,λ Z e=>nomatch e⟩
 | ref p =>
  obtain rfl:=r
  rcases ty with⟨rfl,xs,hq⟩ |⟨rfl,o,hk,hc,hd⟩ |⟨rfl,hk⟩ |⟨rfl,S,n,hk⟩
  ·obtain⟨its,_,pl,_⟩:=I.list hq
   refine⟨pl.isList.typeIs,λ a e=>?_⟩
   (injection e with aD;subst aD)
   obtain⟨o,n,e,c,hd,_⟩:=pl
   exact⟨o,e,hd⟩
  ·refine⟨⟨o,I.kIn p o hk,hc⟩,λ a e=>?_⟩
   (injection e with aD;subst aD)
   exact⟨o,I.kIn _ o hk,hd⟩
  ·have z:∃o,s.heap.get? p=some o/\o.ExactDict:=by
    rcases hk with⟨kvs,hk⟩ |⟨kvs,hk⟩
    ·obtain⟨_,_,_,_,o,_,_,e,ex,_⟩:=I.hok p _ hk
     exact⟨o,e,ex⟩
    ·obtain⟨_,_,_,_,o,_,_,e,ex,_⟩:=I.hok p _ hk
     exact⟨o,e,ex⟩
   obtain⟨o,e,ex⟩:=z
   refine⟨⟨o,e,ex.1⟩,λ a e2=>?_⟩
   (injection e2 with aD;subst aD)
   exact⟨o,e,ex.2.1⟩
  ·obtain⟨o,_,_,_,e,ex,_⟩:=I.hok p _ hk
   refine⟨⟨o,e,ex.1⟩,λ a e2=>?_⟩
   (injection e2 with aD;subst aD)
   exact⟨o,e,ex.2.1⟩
 |_=>exact False.elim ty
noncomputable def tBM (K:PySem.W.Frag) (T:String) (r:V->List V->Hp->VK->Prop) (to:TE) (t:TA):TE:=λ σ H Q=>to σ H λ x H1=>tyV K T x H1/\t σ H1 λ xs H2=>r x xs H2 Q
variable {o e:Expr} {es:List Expr} {to:TE} {t:TA} {name:Str} {apos cpos:Pos} {T id:String} {r:V->List V->Hp->VK->Prop}
theorem pe_bm (pa:PlainAttrs T) (slot:Slot T name id) (hty:typeOf (.builtin id)=pure (.type "method_descriptor")) (hm:MtR X id r) (ho:PE X o to) (ha:PA X (e::es) t)
  (hbase:autoParam (attributeBase o name X.env (eval o X.env)=eval o X.env) bD._auto_1)
  (hfew:((backTo cpos (starEach (e::es) X.env)).all (λ x=> !x.1) && (backToKw cpos (keywordEach [] X.env)).all (λ x=>x.1.isSome)
   && decide ((e::es).length+([]:List Keyword).length+(if ([]:List Keyword).isEmpty then 0 else 1) < 30))=true:=by rfl)
  (hline:autoParam ((apos.endLine ==cpos.line)=true) bD._auto_1) (hs:autoParam (starEach (e::es) X.env=(false,eval e X.env)::starEach es X.env) bD._auto_1) (hplain:autoParam ((backTo cpos (starEach es X.env)).any (·.1)=false) bD._auto_1):
  PE X (.Call (.Attribute o name apos) (e::es) [] cpos) (tBM X.K T r to t):=by
 intro pins s σ H Q I h
 refine wpAny_Call_method_late hbase hfew hline rfl (thn (ho pins s σ H _ I h) λ v s1 bW=>?_)
 obtain⟨x,H1,I1,r1,ty,q1⟩:=bW
 obtain⟨h1,h2⟩:=tyV_is I1 r1 ty
 refine⟨T,id,pa,slot,hty,h1,h2,?_⟩
 have hA:=ha cpos pins s1 σ H1 _ I1 q1
 rw[hs] at hA |-
 refine Calls.callWith_builtin (by show (false || (backTo cpos (starEach es X.env)).any (·.1))=false;rw[hplain] <;> rfl) (Calls.evalArgs_plain ?_)
 refine thn hA λ us s2 bW=>?_
 obtain⟨vs,H2,I2,r2,q2⟩:=bW
 exact hm pins s2 σ H2 x vs v us Q I2 r1 r2 q2
end
noncomputable def MtM (X:Cx) (id:String) (r:V->List V->Hp->VK->Prop):Prop:=
 ∀ (pins:List (Addr×Obj)) (s:Shared) (σ:St) (H:Hp) (x:V) (xs:List V) (v:Value) (us:List Value) (Q:VK),Inv X pins σ H s->RelV x v->Vals xs us->r x xs H Q->
  wpAny (model X.prog X.w) X.A (call (.builtin id) (v::us)) (EP X pins σ Q) X.xe s
theorem Vals.one:∀{x:V} {us:List Value},Vals [x] us->∃u,us=[u]/\RelV x u
 | _,_,h=>by
  cases h with
  |cons r t=>cases t;exact⟨_,rfl,r⟩
theorem Vals.rep {xs:List V} {us:List Value} (h:Vals xs us):∀k:Nat,Vals (List.replicate k xs).flatten (List.replicate k us).flatten
 |0=> .nil
 | k+1=>by
  rw[List.replicate_succ,List.replicate_succ,List.flatten_cons,List.flatten_cons]
  exact Vals.append h (Vals.rep h k)
theorem foldl_rep (its:List Value):∀(k:Nat) (acc:List Value),
  List.foldl (λ x1 x2=>x1++x2) acc.toArray (List.replicate k its.toArray)=(acc++(List.replicate k its).flatten).toArray
 |0,acc=>by simp
 | k +1,acc=>by
  have e:acc.toArray++its.toArray=(acc++its).toArray:=by simp
  have e2:(acc++its)++(List.replicate k its).flatten=acc++(List.replicate (k+1) its).flatten:=by
   rw[List.replicate_succ,List.flatten_cons,List.append_assoc]
  rw[<-e2,<-foldl_rep its k (acc++its),<-e,List.replicate_succ,List.foldl_cons]
section
variable {X:Cx} {pins:List (Addr×Obj)} {σ:St} {H:Hp} {s:Shared} {l b:Addr} {xs ys zs:List V}
theorem Inv.lset {its its':List Value} {n:Nat} {f:Array Value->Array Value} {t':Nat} (I:Inv X pins σ H s) (hH:H l=some (.lst xs))
  (e:s.heap.get? l=some {cls:= .type "list",data:= .seq its.toArray n}) (hf:f its.toArray=its'.toArray) (hv:Vals ys its') (hz:ys.length<=sizeLine):
  Inv X pins σ (upd H l (.lst ys)) {s with heap:=s.heap.update l (Obj.mapSeq f),toks:=t'}:=by
 have q:=PySem.IsL.update e f
 rw[hf] at q
 refine I.write (x:=l) (e:=l) (by rw[hH];exact trivial) (.inl rfl) (λ b' u hb hu=>(Heap.get?_update_other s.heap (Obj.mapSeq f) (Ne.symm hb)).trans hu) ⟨_,q⟩ ?_
 exact⟨hz,its',_,hv,q⟩
theorem Inv.lnew {its:List Value} {t':Nat} (I:Inv X pins σ H s) (hv:Vals ys its) (hz:ys.length<=sizeLine):
  Inv X pins σ (upd H s.heap.objs.size (.lst ys)) {s with heap:=s.heap.push {cls:= .type "list",data:= .seq its.toArray},toks:=t'}:=
 I.laid (λ Z Z q=>z1a _ q) (z0g _) ⟨hz,its,0,hv,z1f _ rfl⟩
theorem Inv.fresh (I:Inv X pins σ H s):H s.heap.objs.size=none:=I.hok.fresh (z0g _)
theorem Inv.lstM (I:Inv X pins σ H s) (hH:H l=some (.lst xs)):xs.length<=sizeLine/\∃(its:List Value) (n:Nat),Vals xs its/\xs.length=its.length/\s.heap.get? l=some {cls:= .type "list",data:= .seq its.toArray n}:=by
 obtain⟨z,its,n,r,e⟩:=I.hok l _ hH
 exact⟨z,its,n,r,r.length,e⟩
end
section
variable {X:Cx}
noncomputable def rAppend:V->List V->Hp->VK->Prop:=λ x vs H Q=>∃l xs y,x= .ref l/\vs=[y]/\H l=some (.lst xs)/\xs.length < sizeLine/\Q .non (upd H l (.lst (xs++[y])))
theorem mt_append:MtM X "list.append" rAppend:=by
 intro pins s σ H x vs v us Q I rx rv h
 refine bc λ zQ=>?_
 obtain⟨l,xs,y,rfl,rfl,hH,hz,q⟩:=h
 apply zQ;clear zQ
 obtain rfl:=rx
 refine bc λ zQ=>?_
 obtain⟨u,rfl,ru⟩:=rv.one
 obtain⟨z,its,n,r,hl,e⟩:=I.lstM hH
 apply zQ;clear zQ
 refine call_meets F.slot_list_append ⟨_,e,rfl⟩ F.entry_list_append (F.args_list_append_2 _ _) (PySem.list_append l its.toArray n u (by rw[z1c];exact amd hz hl)) ⟨e,?_⟩
 refine⟨.non,_,I.lset (its':=its++[u]) hH e (by simp) (r.append (.cons ru .nil)) ?_,rfl,q⟩
 rw[z1d,List.length_singleton]
 assumption
theorem len_rep {α:Type} (xs:List α) (k:Nat):(List.replicate k xs).flatten.length=k*xs.length:=by
 induction k with
 |zero=>simp
 |succ k ih=>rw[List.replicate_succ,List.flatten_cons,z1d,ih,Nat.succ_mul,Nat.add_comm]
end
section
variable {prog:Program} {w:World} {A:Around} {E:Value->Shared->Prop} {s:Shared}
end
section
variable {X:Cx}
end
section
variable {κ:Type} [DecidableEq κ]
end
section
variable {P:Program} {w:World} {H:Hp} {h:Heap} {a:Addr}
end
section
variable {X:Cx} {pins:List (Addr×Obj)} {σ:St} {H:Hp} {s:Shared} {a:Addr} {y v:V} {u r:Value} {o:Option V} {A:Around} {E:Value->Shared->Prop}
end
section
variable {X:Cx} {pins:List (Addr×Obj)} {σ:St} {H:Hp} {s:Shared} {a:Addr} {kvs:List (Key×V)} {k:Key} {u:Value} {A:Around} {E:Value->Shared->Prop}
end
section
variable {X:Cx} {o i e value:Expr} {pos pos' tpos:Pos} {td ty tv:TE}
end
section
variable {X:Cx} {pos:Pos}
end
section
variable {X:Cx} {pins:List (Addr×Obj)} {σ:St} {H:Hp} {s:Shared} {a:Addr} {y d:V} {u r:Value} {o:Option V} {A:Around} {E:Value->Shared->Prop}
end
section
variable {X:Cx} {o e f:Expr} {apos cpos:Pos} {td ty tx:TE}
end
section
variable {X:Cx} {pins:List (Addr×Obj)} {σ:St} {H:Hp} {s:Shared} {a:Addr} {kvs:List (Key×V)} {A:Around} {E:Value->Shared->Prop}
end
section
variable {X:Cx} {pins:List (Addr×Obj)} {σ:St} {H:Hp} {s:Shared} {a:Addr} {y:V} {u:Value} {A:Around} {E:Value->Shared->Prop}
end
end L2
namespace Att
open PySem PySem.W PySem.Calls PyProof.Rows
theorem ints_of_wellAll {P:Params} {h:Heap}:∀(ns:List Int) (vs:List Value),WellAll P h vs (ns.map WData.int)->IntsAre vs ns:=by
 intro ns
 induction ns with
 | nil=>
  intro vs w
  rw[List.map_nil] at w
  cases w
  exact .nil
 | cons n ns ih=>
  intro vs w
  rw[z1h] at w
  cases w with
  | cons a b=>
   cases a
   exact .cons _ _ (ih _ b)
theorem script_of {l:OpenLaw} {n:Nat} (hn:l.most=some n) {P:Params} {h:Heap} {args:List WData} {vals:List Value}
  (hpre:l.row.toRowW.claim.pre args=true) (hwl:WellAll P h vals args):
  ∃a vs ns,vals=[Value.ref a]/\args=[WData.list (ns.map WData.int)]/\h.get? a=some {cls:= .type "list",data:= .seq vs.toArray}/\IntsAre vs ns/\ns.length<=n:=by
 have hsh:WShape.hasAll [] args [.list .int]=true:=(pre_splitW hpre).1
 have hc:l.pre.holds [] {args:=args}=true:=(pre_splitW hpre).2
 obtain⟨d,r,rfl,h1,h2⟩:=hasAllW_cons hsh
 obtain rfl:=hasAllW_nil h2
 obtain⟨xs,rfl,h3⟩:=hasW_list h1
 obtain⟨ns,rfl⟩:=items_int h3
 have hlen:ns.length<=n:=by
  unfold OpenLaw.pre at hc
  have h4:(WTm.not (.lt (.lit (.int (n:Int))) (.len (.arg 0)))).holds [] {args:=[.list (ns.map .int)]}=true:=by
   have h4:=(holds_andW hc).1
   rw[hn] at h4
   exact h4
  have h5:=condW_of h4 (w_not (w_lt w_lit (w_len_list (w_arg rfl))))
  rw[z1g] at h5
  refine Nat.le_of_not_lt λ q=>?_
  have q':(n:Int) < ((ns.length:Nat):Int):=by exact Int.ofNat_lt.mpr q
  first
   |(rw[decide_eq_true q'] at h5;exact absurd h5 (by decide))
   |(simp at h5;omega)
 cases hwl with
 | cons w1 w2=>
  cases w2
  cases w1 with
  |list ho hall=>exact⟨_,_,ns,rfl,rfl,ho,ints_of_wellAll ns _ hall,hlen⟩
theorem post_true (l:OpenLaw) (args:List WData):l.row.toRowW.claim.post args (.bool true) args=true:=
 postW_of (r:=l.row.toRowW) (X:=(true ==true))
  (show WShape.has [] (.bool true) .bool=true by first |rfl |decide |simp [WShape.has,WShape.arms,WShape.armsAll])
  (show (WTm.eq .res (.lit (.bool true))).value [] {args:=args,res:=some (.bool true),after:=args}=some (.bool (true ==true)) from w_eq_bool (w_res rfl) w_lit) rfl
theorem attach_call {l:OpenLaw} {n:Nat} {q:Program} {loose:List Str} {XP:(Str->Option Value)->Heap->Prop} {YP:World->Heap->Prop} {d:DefRec}
  (hn:l.most=some n) (hdf:d.params.defaults=[])
  (call:∀(w:World) (s₀ s₁:Shared) (mg mb:Str->Option Value) (fa:Addr) (o:Obj) (pm cd doc:Value) (a:Addr) (vs:List Value) (ns:List Int),
   Ground q loose [] XP w s₀ mg mb s₁.heap->YP w s₁.heap->
   s₁.heap.get? fa=some o->o.data= .func (docDef d.name d.params d.body d.scope pm cd doc)->s₁.heap.CodeRec cd d.name->mg d.name=some (.ref fa)->
   s₁.heap.get? a=some {cls:= .type "list",data:= .seq vs.toArray}->IntsAre vs ns->ns.length<=n->s₁.gens= #[]->
   codeAny (model l.prog w) callerA (.call (.ref fa) ⟨[.ref a],[]⟩) (λ r s'=>r= .ok (.ret (.bool true))/\OldK s₁.heap s'.heap/\s'.os=s₁.os/\AllBare s'.gens) s₁):
  WalkO q loose XP YP l.row.toRowW d [] (λ f vs=>PySem.call f vs):=by
 intro w s₀ s₁ mg mb G Y fa o pm cd doc dV kV ho hd hcd hD hmg hg args vals as hpre hlay hrd hwl hlo
 obtain rfl:dV= .none:=Dflts.none hD hdf
 obtain rfl:kV= .none:=Dflts.noKw hD
 obtain⟨a,vs,ns,rfl,rfl,hobj,hints,hlen⟩:=script_of hn hpre hwl
 refine enter_call (codeAny_mono (call w s₀ s₁ mg mb fa o pm cd doc a vs ns G Y ho (fd_plain hd) hcd hmg hobj hints hlen hg) λ r s' hq=>?_)
 obtain⟨rfl,h2,h3,h4⟩:=hq
 exact⟨.inl ⟨.bool true,.bool true,[],rfl,λ Z=>rfl,.bool true,post_true l _,λ Z=>⟨List.Pairwise.nil,λ Z hm=>(nomatch hm)⟩⟩,h2,h3,h4⟩
section
variable {prog:Program} {w:World} {A:Around} {E:Value->Shared->Prop} {s:Shared} {K:Frag}
end
end Att
namespace L2
open PySem PySem.Spec PyProof.Rows
theorem vals_ints:∀{vs:List Value} {ns:List Int},IntsAre vs ns->Vals (ns.map V.int) vs
 :=by
 intro vs ns h
 induction h with
 |nil=>exact .nil
 |cons n t h ih=>exact .cons ⟨t,rfl⟩ ih
noncomputable def Only (H:Hp):Prop:=∀b,H b=none\/∃o xs,H b=some (.frz o (.lst xs))
theorem law_call {P:Program} {w:World} {K:PySem.W.Frag} {mg mb:Str->Option Value} {CX:CXT} {k:Nat} {fa a:Addr} {fd:FuncData} {x:Str} {sp:Sp} {s₁:Shared} {vs:List Value} {ns:List Int}
  (KX:K.In s₁.heap) (hns:s₁.heap.Ns mainGlobals mg) (hb:s₁.heap.Ns builtinsNs mb) (hbb:∀x:Str,x≠"__name__"->mb x=bootBuiltins x) (hlim:s₁.heap.NoLimit) (hg:s₁.gens= #[])
  (ha:s₁.heap.get? a=some {cls:= .type "list",data:= .seq vs.toArray}) (hi:IntsAre vs ns) (hl:ns.length<=sizeLine) (hr:Room k callerA)
  (F:∀base:Heap,K.In base->base.Ns mainGlobals mg->FnOk P w K mg base CX k fa fd [x] sp) (hbind:∀(s:Shared) (u:Value),BindsTo s fd ⟨[u],[]⟩ [(x,u)])
  (hsp:∀H:Hp,Only H->SqL K H a (ns.map V.int)->sp [.ref a] H (λ v Z=>v= .bl true) λ Z Z Z=>False)
  (hCX:∀H e s',CX [] H s₁ (λ Z Z Z=>False) e s'->False):
  codeAny (model P w) callerA (.call (.ref fa) ⟨[.ref a],[]⟩) (λ r s'=>r= .ok (.ret (.bool true))/\OldK s₁.heap s'.heap/\s'.os=s₁.os/\AllBare s'.gens) s₁:=by
 have rv:=vals_ints hi
 have lenV:=hi.length
 have core :∀H:Hp,Only H->SqL K H a (ns.map V.int)->HOk P w H s₁.heap->(∀b,H b≠none->b=a)->(H a≠none->K.lookup a=none)->
   codeAny (model P w) callerA (.call (.ref fa) ⟨[.ref a],[]⟩) (λ r s'=>r= .ok (.ret (.bool true))/\OldK s₁.heap s'.heap/\s'.os=s₁.os/\AllBare s'.gens) s₁:=by
  intro H hO hS hok hA hK
  have base_of:∀{b:Addr} {o:Obj},s₁.heap.get? b=some o->H b=none->(hidT s₁.heap H).get? b=some o:=λ e n=>hidT_get e n
  have noA:∀{b:Addr} {o:Obj} {es:Array DictEntry} {ep:Nat},s₁.heap.get? b=some o->o.data= .dict es ep->H b=none:=λ {b o es ep} e d=>by
   cases q:H b with
   |none=>rfl
   | some u=>
    have e':b=a:=hA b (by rw[q];simp)
    subst e'
    rw[ha] at e;(injection e with aD;subst aD)
    have d':Data.seq vs.toArray _=Data.dict es ep:=d
    injection d'
  have nsK:∀{b:Addr} {m:Str->Option Value},s₁.heap.Ns b m->(hidT s₁.heap H).Ns b m:=λ {b m} ⟨o,es,ep,e,d,r⟩=>⟨o,es,ep,base_of e (noA e d),d,r⟩
  have hKb:K.In (hidT s₁.heap H):=λ b o e=>base_of (KX b o e) (by
   cases q:H b with
   |none=>rfl
   | some u=>
    have e':b=a:=hA b (by rw[q];simp)
    subst e'
    rw[hK (by rw[q];simp)] at e;injection e)
  have hM:Mod K mg (hidT s₁.heap H):=⟨hKb,nsK hns,⟨mb,nsK hb,hbb⟩,let ⟨mc,h1,h2⟩:=hlim;⟨mc,nsK h1,h2⟩⟩
  have e0:Env0 P w K mg (hidT s₁.heap H) callerA [] s₁ H:=⟨rfl,hM,λ b o e=>of_hidT e,z0f (hidT_size _ _),trivial,λ b hb=>absurd (show b∈([]:List Addr) from hb) (by simp),hok,.of_eq hg⟩
  refine codeAny_mono ((F _ hKb (nsK hns)).run callerA [] s₁ H ⟨[.ref a],[]⟩ [.ref a] [.ref a] _ _ hr e0 (hbind s₁ (.ref a)) (.cons rfl .nil) (hsp H hO hS)) λ r s' h=>?_
  cases r with
  |error e=>exact (hCX H e s' h).elim
  | ok fl =>
   cases fl with
   |next=>exact False.elim h
   |brk=>exact False.elim h
   |cont=>exact False.elim h
   | ret u=>
    obtain⟨v,H',os,bare,un,hok',r',q⟩:=h
    have q':v= .bl true:=q
    subst q'
    obtain rfl:u=Value.bool true:=r'
    refine⟨rfl,OldK.of_keep λ b o e=>?_,os,bare⟩
    cases q:H b with
    |none=>exact un.keep b o e q (by intro z;exact absurd (show b∈([]:List Addr) from z) (by simp)) (by simp)
    | some u=>
     rcases hO b with z |⟨ob,xs,z⟩
     ·rw[q] at z;injection z
     ·have z2:=un.frzs b ob _ z
      obtain⟨e1,_⟩:=hok b _ z
      obtain⟨e2,_⟩:=hok' b _ z2
      rw[e] at e1;(injection e1 with aD;subst aD)
      exact e2
 cases hk:K.lookup a with
 | some o=>
  have e:=KX a o hk
  rw[ha] at e
  (injection e with aD;subst aD)
  refine core (λ Z=>none) (λ Z=> .inl rfl) (.inr ⟨_,vs.toArray,_,hk,rfl,rfl,rfl,by rw[z1c,lenV];exact hl,by simpa using rv⟩) (λ b u z=>by have z':(none:Option HO)=some u:=z;injection z') (λ b z=>absurd rfl z) λ z=>absurd rfl z
 | none=>
  refine core (λ b=>if b=a then some (.frz {cls:= .type "list",data:= .seq vs.toArray} (.lst (ns.map V.int))) else none) (λ b=>?_) (.inl (.inr ⟨{cls:= .type "list",data:= .seq vs.toArray},if_pos rfl⟩)) (λ b u z=>?_) (λ b z=>?_) λ Z=>hk
  ·by_cases hb:b=a
   ·exact .inr ⟨_,_,if_pos hb⟩
   ·exact .inl (if_neg hb)
  ·by_cases hb:b=a
   ·have z':=(if_pos hb).symm.trans z
    (injection z' with aD;subst aD)
    subst hb
    exact⟨ha,by rw[z1g];exact hl,vs,_,rv,ha⟩
   ·have z':=(if_neg hb).symm.trans z
    injection z'
  ·by_cases hb:b=a
   ·exact hb
   ·exact absurd (if_neg hb) z
theorem walk_of {l:PySem.W.OpenLaw} {n k:Nat} {q:Program} {loose:List Str} {XP:(Str->Option Value)->Heap->Prop} {YP:World->Heap->Prop} {d:DefRec} {K:Params->PySem.W.Frag} {CX:World->CXT} {sp:World->Sp} {x:Str}
  (hn:l.most=some n) (hn2:n<=sizeLine) (hdf:d.params.defaults=[]) (hr:Room k callerA)
  (hY:∀(w:World) (h:Heap),YP w h->(K w.params).In h)
  (F:∀(w:World) (mg:Str->Option Value) (fa:Addr) (h:Heap),(K w.params).In h->h.Ns mainGlobals mg->mg d.name=some (.ref fa)->
   ∃ fd:FuncData,(∀(s:Shared) (u:Value),BindsTo s fd ⟨[u],[]⟩ [(x,u)])/\
    ∀base:Heap,(K w.params).In base->base.Ns mainGlobals mg->FnOk l.prog w (K w.params) mg base (CX w) k fa fd [x] (sp w))
  (hsp:∀(w:World) (H:Hp) (a:Addr) (ns:List Int),ns.length<=n->Only H->SqL (K w.params) H a (ns.map V.int)->sp w [.ref a] H (λ v Z=>v= .bl true) λ Z Z Z=>False)
  (hCX:∀(w:World) (H:Hp) (s:Shared) (e:Value) (s':Shared),CX w [] H s (λ Z Z Z=>False) e s'->False):
  PySem.W.WalkO q loose XP YP l.row.toRowW d [] (λ f vs=>PySem.call f vs):=by
 refine Att.attach_call hn hdf λ w s₀ s₁ mg mb fa o pm cd doc a vs ns G Y ho hd hcd hmg hobj hints hlen hg=>?_
 have KX:=hY w _ Y
 obtain⟨fd,hb,hF⟩:=F w mg fa _ KX G.T.g hmg
 exact law_call KX G.T.g G.T.b G.T.builtins G.T.nolimit hg hobj hints (z0b hlen hn2) hr hF hb (λ H hO hS=>hsp w H a ns hlen hO hS) λ H e s'=>hCX w H s₁ e s'
noncomputable def defArgs (s:Stmt):Arguments:=match s with
 | .FunctionDef _ a _ _ _ _ _ _ _ _=>a
 |_=>{posonlyargs:=[],args:=[],vararg:=none,kwonlyargs:=[],kw_defaults:=[],kwarg:=none,defaults:=[]}
noncomputable def defBody (s:Stmt):List Stmt:=match s with
 | .FunctionDef _ _ b _ _ _ _ _ _ _=>b
 |_=>[]
noncomputable def defScope (s:Stmt):Scope:=match s with
 | .FunctionDef _ _ _ _ _ _ sc _ _ _=>sc
 |_=>{kind:= .function,names:=[],isGenerator:=false,isCoroutine:=false}
noncomputable abbrev CX0:CXT:=λ Z Z Z Z Z Z=>False
noncomputable abbrev E0:XK:=λ Z Z Z=>False
theorem pass0 {X:Cx}:Passes CX0 X E0:=λ Z Z Z Z Z Z Z h=>h.elim
inductive agH (K:PySem.W.Frag) (x qual:Str) (st:Stmt) (f:Addr) (fd:FuncData):Prop
 |mk (oc:Value) (od:Option Addr) (kV doc pm:Value) (an:Option Addr) (cdv ct:Value) (osl:Array (Option Value)) (e:fd=PySem.W.fnOf x qual (defArgs st) (defBody st) (defScope st) .none kV doc pm an cdv ct) (lk:K.lookup f=some ⟨oc,od,.func fd,osl⟩) (hcd:PySem.W.codeIn K cdv qual=true):agH K x qual st f fd
structure Fun (K:PySem.W.Frag) (x qual:Str) (st:Stmt) (f:Addr) (fd:FuncData):Prop where
 ex:agH K x qual st f fd
 kp:PySem.W.keepIn K (.ref f)=true
section
variable {P:Program} {w:World} {K:PySem.W.Frag} {mg:Str->Option Value} {base:Heap}
theorem Fun.ok {x qual:Str} {st:Stmt} {f:Addr} {fd:FuncData} {N ps:List Str} {k:Nat} {sp:Sp} (F:Fun K x qual st f fd) (S:FnScope N ps (defScope st)) (len:∀vs H Q E,sp vs H Q E->vs.length=ps.length)
  (hbody:∀(cdv:Value) (A:Around) (outer:List Env) (s:Shared) (H:Hp) (vs:List V) (Q:VK) (E:XK),Room k (A.deeper (envOfC qual (defScope st) s.heap.objs.size f cdv))->sp vs H Q E->
   ∃t,PSs (cxOf CX0 P w K mg base N qual (defScope st) f cdv A outer s H E).nox (defBody st) t/\t {nx:=λ Z H'=>Q .non H',rt:=Q} (start N vs) H):FnOk P w K mg base CX0 (k+1) f fd ps sp:=by
 obtain⟨oc,od,kV,doc,pm,an,cdv,ct,osl,rfl,lk,hcd⟩:=F.ex
 refine fn_of lk hcd S len λ A outer s H vs Q E hr hsp=>?_
 obtain⟨t,h,q⟩:=hbody cdv A outer s H vs Q E hr hsp
 exact⟨t,h.nox,q⟩
theorem Fun.binds {x qual:Str} {st:Stmt} {f:Addr} {fd:FuncData} {ps:List Str} (F:Fun K x qual st f fd)
  (h:∀(kV doc pm:Value) (an:Option Addr) (cdv ct:Value) (us:List Value),us.length=ps.length->bindArgs (PySem.W.fnOf x qual (defArgs st) (defBody st) (defScope st) .none kV doc pm an cdv ct) ⟨us,[]⟩=pure (ps.zip us)):Binds K fd ps []:=by
 obtain⟨oc,od,kV,doc,pm,an,cdv,ct,osl,rfl,lk,hcd⟩:=F.ex
 exact .all (h kV doc pm an cdv ct)
theorem fun_mk {x qual:Str} {st:Stmt} {f:Addr} {oc:Value} {od an:Option Addr} {osl:Array (Option Value)} {kV doc pm cdv ct:Value} (l:K.lookup f=some ⟨oc,od,.func (PySem.W.fnOf x qual (defArgs st) (defBody st) (defScope st) .none kV doc pm an cdv ct),osl⟩)
  (c:PySem.W.codeIn K cdv qual=true) (k:PySem.W.keepIn K (.ref f)=true):Fun K x qual st f (PySem.W.fnOf x qual (defArgs st) (defBody st) (defScope st) .none kV doc pm an cdv ct):=⟨⟨oc,od,kV,doc,pm,an,cdv,ct,osl,rfl,l,c⟩,k⟩
end
section
variable {X:Cx}
end
noncomputable def Same (H H':Hp):Prop:=∀b o,H b=some o->H' b=some o
theorem Same.refl (H:Hp):Same H H:=λ Z Z h=>h
theorem Same.trans {H H1 H2:Hp} (a:Same H H1) (b:Same H1 H2):Same H H2:=λ c o h=>b c o (a c o h)
theorem Same.free {H H':Hp} (e:Same H H') {l:Addr} (h:H' l=Option.none):H l=Option.none:=by
 cases q:H l with
 |none=>rfl
 | some o=>
  rw[e l o q] at h
  injection h
section
variable {κ:Type} [DecidableEq κ]
end
end L2
namespace Pu
open PySem PySem.Spec L2
open PyProof.Rows hiding St
set_option genInjectivity true in
inductive D where
 |non |bl (b:Bool) |int (i:Int) |str (x:Str) |tup (xs:List D) |lst (xs:List D)
set_option genInjectivity true in
inductive R (α:Type) where
 |bad |ok (a:α) |err (c:Str)
namespace R
noncomputable def bind {α β:Type} (r:R α) (k:α->R β):R β:=match r with
 | .ok a=>k a
 | .err c=> .err c
 | .bad=> .bad
@[simp] theorem bF {α β:Type} (a:α) (k:α->R β):(R.ok a).bind k=k a:=rfl
end R
mutual
noncomputable def Rep (K:PySem.W.Frag) (O:Addr->Prop) (H:Hp):D->V->Prop
 | .non,v=>v= .non
 | .bl b,v=>v= .bl b
 | .int i,v=>v= .int i
 | .str x,v=>v= .str x
 | .tup ds,v=>∃a xs,v= .ref a/\SqT K H a xs/\aY K O H ds xs
 | .lst ds,v=>∃a xs,v= .ref a/\SqL K H a xs/\¬O a/\aY K O H ds xs
noncomputable def aY (K:PySem.W.Frag) (O:Addr->Prop) (H:Hp):List D->List V->Prop
 |[],xs=>xs=[]
 |d::ds,xs=>∃x r,xs=x::r/\Rep K O H d x/\aY K O H ds r
end
structure Ext (O:Addr->Prop) (H H':Hp):Prop where
 tup:∀b xs,Rd H b (.tup xs)->Rd H' b (.tup xs)
 lst:∀b xs,¬O b->Rd H b (.lst xs)->Rd H' b (.lst xs)
section
variable {K:PySem.W.Frag} {O O':Addr->Prop} {H H':Hp}
theorem SqL.ext (e:Ext O H H') {a:Addr} {xs:List V} (n:¬O a) (h:SqL K H a xs):SqL K H' a xs:=by
 rcases h with h |h
 ·exact .inl (e.lst _ _ n h)
 ·exact .inr h
theorem SqT.ext (e:Ext O H H') {a:Addr} {xs:List V} (h:SqT K H a xs):SqT K H' a xs:=by
 rcases h with h |h
 ·exact .inl (e.tup _ _ h)
 ·exact .inr h
mutual
theorem Rep.ext (e:Ext O H H') (o:∀b xs,¬O b->SqL K H b xs->¬O' b):∀(d:D) (v:V),Rep K O H d v->Rep K O' H' d v
 | .non,_,h=>h
 | .bl _,_,h=>h
 | .int _,_,h=>h
 | .str _,_,h=>h
 | .tup ds,v,h=>by
  obtain⟨a,xs,e1,h1,h2⟩:=h
  exact show ∃a xs,v= .ref a/\SqT K H' a xs/\aY K O' H' ds xs from ⟨a,xs,e1,SqT.ext e h1,aY.ext e o ds xs h2⟩
 | .lst ds,v,h=>by
  obtain⟨a,xs,e1,h1,h2,h3⟩:=h
  exact show ∃a xs,v= .ref a/\SqL K H' a xs/\¬O' a/\aY K O' H' ds xs from ⟨a,xs,e1,SqL.ext e h2 h1,o _ _ h2 h1,aY.ext e o ds xs h3⟩
theorem aY.ext (e:Ext O H H') (o:∀b xs,¬O b->SqL K H b xs->¬O' b):∀(ds:List D) (xs:List V),aY K O H ds xs->aY K O' H' ds xs
 |[],xs,h=>h
 | d::ds,xs,h=>by
  obtain⟨x,r,e1,h1,h2⟩:=h
  exact show ∃x r,xs=x::r/\Rep K O' H' d x/\aY K O' H' ds r from ⟨x,r,e1,Rep.ext e o d x h1,aY.ext e o ds r h2⟩
end
end
structure iK (K:PySem.W.Frag) (O:Addr->Prop) (H:Hp) (O':Addr->Prop) (H':Hp):Prop where
 ext:Ext O H H'
 new:∀a,O' a->O a\/(H a=none/\K.lookup a=none)
 dom:∀a,H' a=none->H a=none
section
variable {K:PySem.W.Frag} {O O1 O2:Addr->Prop} {H H1 H2:Hp}
theorem Rd.some {a:Addr} {u:HO} (h:Rd H a u):H a≠none:=by
 rcases h with h |⟨o,h⟩ <;> rw[h] <;> simp
theorem iK.out (r:iK K O H O1 H1) (b:Addr) (xs:List V) (n:¬O b) (h:SqL K H b xs):¬O1 b:=λ z=>by
 rcases r.new b z with z |⟨z1,z2⟩
 ·exact n z
 ·rcases h with h |⟨o,_,_,h,_⟩
  ·exact Rd.some h z1
  ·rw[z2] at h;injection h
theorem iK.refl:iK K O H O H:=⟨⟨λ Z Z h=>h,λ Z Z Z h=>h⟩,λ Z h=> .inl h,λ Z h=>h⟩
theorem iK.trans (r:iK K O H O1 H1) (q:iK K O1 H1 O2 H2):iK K O H O2 H2 where
 ext:=⟨λ b xs h=>q.ext.tup b xs (r.ext.tup b xs h),λ b xs n h=>q.ext.lst b xs (r.out b xs n (.inl h)) (r.ext.lst b xs n h)⟩
 new:=λ a z=>(q.new a z).elim (r.new a) λ w=> .inr ⟨r.dom a w.1,w.2⟩
 dom:=λ a z=>r.dom a (q.dom a z)
theorem Same.rd (s:Same H H1) {a:Addr} {u:HO} (h:Rd H a u):Rd H1 a u:=by
 rcases h with h |⟨o,h⟩
 ·exact .inl (s _ _ h)
 ·exact .inr ⟨o,s _ _ h⟩
theorem Same.iW (s:Same H H1):iK K O H O H1:=⟨⟨λ Z Z h=>Same.rd s h,λ Z Z Z h=>Same.rd s h⟩,λ Z h=> .inl h,λ Z h=>s.free h⟩
theorem Rep.go (r:iK K O H O1 H1) {d:D} {v:V} (h:Rep K O H d v):Rep K O1 H1 d v:=Rep.ext r.ext r.out d v h
theorem aY.go (r:iK K O H O1 H1) {d:List D} {v:List V} (h:aY K O H d v):aY K O1 H1 d v:=aY.ext r.ext r.out d v h
theorem Rep.same (s:Same H H1) {d:D} {v:V} (h:Rep K O H d v):Rep K O H1 d v:=h.go (Same.iW s)
theorem aY.same (s:Same H H1) {d:List D} {v:List V} (h:aY K O H d v):aY K O H1 d v:=h.go (Same.iW s)
theorem Rep.fewer (w:∀a,O1 a->O a) {d:D} {v:V} (h:Rep K O H d v):Rep K O1 H d v:=Rep.ext ⟨λ Z Z h=>h,λ Z Z Z h=>h⟩ (λ b Z n Z z=>n (w b z)) d v h
theorem aY.fewer (w:∀a,O1 a->O a) {d:List D} {v:List V} (h:aY K O H d v):aY K O1 H d v:=aY.ext ⟨λ Z Z h=>h,λ Z Z Z h=>h⟩ (λ b Z n Z z=>n (w b z)) d v h
theorem aY.nil:aY K O H [] []:=show ([]:List V)=[] from rfl
theorem aY.cons {d:D} {v:V} {ds:List D} {vs:List V} (h:Rep K O H d v) (t:aY K O H ds vs):aY K O H (d::ds) (v::vs):=show ∃x r,v::vs=x::r/\Rep K O H d x/\aY K O H ds r from ⟨v,vs,rfl,h,t⟩
inductive RCo (K:PySem.W.Frag) (O:Addr->Prop) (H:Hp) (d:D) (ds:List D) (vs:List V):Prop
 |mk (x:V) (r:List V) (e:vs=x::r) (h:Rep K O H d x) (t:aY K O H ds r)
theorem aY.cons_inv {d:D} {ds:List D} {vs:List V} (h:aY K O H (d::ds) vs):RCo K O H d ds vs:=by
 obtain⟨x,r,e,h,t⟩:=h;exact⟨x,r,e,h,t⟩
theorem aY.nil_inv {vs:List V} (h:aY K O H [] vs):vs=[]:=h
theorem aY.length:∀{ds:List D} {vs:List V},aY K O H ds vs->ds.length=vs.length
 |[],vs,h=>by rw[h.nil_inv];rfl
 | d::ds,vs,h=>by
  obtain⟨x,r,rfl,_,t⟩:=h.cons_inv
  simp[aY.length t]
theorem aY.get:∀{ds:List D} {vs:List V} {i:Nat} {d:D},aY K O H ds vs->ds[i]?=some d->∃v,vs[i]?=some v/\Rep K O H d v
 |[],_,_,_,_,e=>by simp at e
 | d::ds,vs,i,d',h,e=>by
  obtain⟨x,r,rfl,h1,t⟩:=h.cons_inv
  cases i with
  |zero=>simp at e;subst e;exact⟨x,rfl,h1⟩
  |succ i=>simpa using aY.get t (i:=i) (by simpa using e)
theorem aY.ak {ds:List D} {vs:List V} {i:Nat} {v:V} (h:aY K O H ds vs) (e:vs[i]?=some v):∃d,ds[i]?=some d/\Rep K O H d v:=by
 have hl:=h.length
 have hi:i < ds.length:=by rw[hl];exact (z1b e).1
 obtain⟨v',e',r⟩:=h.get (i:=i) (d:=ds[i]) (by simp[hi])
 rw[e] at e';(injection e' with aD;subst aD)
 exact⟨_,by simp[hi],r⟩
theorem aY.append:∀{ds es:List D} {vs ws:List V},aY K O H ds vs->aY K O H es ws->aY K O H (ds++es) (vs++ws)
 |[],_,vs,_,h,t=>by rw[h.nil_inv];exact t
 | d::ds,es,vs,ws,h,t=>by
  obtain⟨x,r,rfl,h1,h2⟩:=h.cons_inv
  exact .cons h1 (aY.append h2 t)
theorem aY.reverse:∀{ds:List D} {vs:List V},aY K O H ds vs->aY K O H ds.reverse vs.reverse
 |[],vs,h=>by rw[h.nil_inv];exact .nil
 | d::ds,vs,h=>by
  obtain⟨x,r,rfl,h1,h2⟩:=h.cons_inv
  simp only[List.reverse_cons]
  exact h2.reverse.append (.cons h1 .nil)
theorem aY.drop:∀{ds:List D} {vs:List V} (n:Nat),aY K O H ds vs->aY K O H (ds.drop n) (vs.drop n)
 |_,_,0,h=>h
 |[],vs,n+1,h=>by rw[h.nil_inv];exact .nil
 | d::ds,vs,n+1,h=>by
  obtain⟨x,r,rfl,h1,h2⟩:=h.cons_inv
  exact h2.drop n
theorem aY.take:∀{ds:List D} {vs:List V} (n:Nat),aY K O H ds vs->aY K O H (ds.take n) (vs.take n)
 |_,_,0,_=>by simpa using aY.nil
 |[],vs,n+1,h=>by rw[h.nil_inv];exact .nil
 | d::ds,vs,n+1,h=>by
  obtain⟨x,r,rfl,h1,h2⟩:=h.cons_inv
  exact .cons h1 (h2.take n)
theorem Rep.int {i:Int} {v:V} (h:Rep K O H (.int i) v):v= .int i:=h
theorem Rep.bl {b:Bool} {v:V} (h:Rep K O H (.bl b) v):v= .bl b:=h
theorem Rep.non {v:V} (h:Rep K O H .non v):v= .non:=h
theorem Rep.str {x:Str} {v:V} (h:Rep K O H (.str x) v):v= .str x:=h
inductive RTu (K:PySem.W.Frag) (O:Addr->Prop) (H:Hp) (ds:List D) (v:V):Prop
 |mk (a:Addr) (xs:List V) (e:v= .ref a) (h:SqT K H a xs) (t:aY K O H ds xs)
inductive RLi (K:PySem.W.Frag) (O:Addr->Prop) (H:Hp) (ds:List D) (v:V):Prop
 |mk (a:Addr) (xs:List V) (e:v= .ref a) (h:SqL K H a xs) (n:¬O a) (t:aY K O H ds xs)
theorem Rep.tup {ds:List D} {v:V} (h:Rep K O H (.tup ds) v):RTu K O H ds v:=by
 obtain⟨a,xs,e,h,t⟩:=h;exact⟨a,xs,e,h,t⟩
theorem Rep.lst {ds:List D} {v:V} (h:Rep K O H (.lst ds) v):RLi K O H ds v:=by
 obtain⟨a,xs,e,h,n,t⟩:=h;exact⟨a,xs,e,h,n,t⟩
theorem cO (i:Int):Rep K O H (.int i) (.int i):=show V.int i=V.int i from rfl
theorem gY (b:Bool):Rep K O H (.bl b) (.bl b):=show V.bl b=V.bl b from rfl
theorem qO:Rep K O H .non .non:=show V.non=V.non from rfl
theorem Nq (x:Str):Rep K O H (.str x) (.str x):=show V.str x=V.str x from rfl
theorem jM {ds:List D} {a:Addr} {xs:List V} (h:SqT K H a xs) (r:aY K O H ds xs):Rep K O H (.tup ds) (.ref a):=show ∃b ys,V.ref a= .ref b/\SqT K H b ys/\aY K O H ds ys from ⟨a,xs,rfl,h,r⟩
theorem vO {ds:List D} {a:Addr} {xs:List V} (h:SqL K H a xs) (n:¬O a) (r:aY K O H ds xs):Rep K O H (.lst ds) (.ref a):=show ∃b ys,V.ref a= .ref b/\SqL K H b ys/\¬O b/\aY K O H ds ys from ⟨a,xs,rfl,h,n,r⟩
end
inductive Ob where
 |exc (c:Str) |fn (a:Addr)
set_option genInjectivity true in
inductive Ent where
 |val (d:D) |lst (ds:List D) |DY (kvs:List (Key×D)) |obj (t:Ob)
noncomputable def Ent.own:Ent->Bool
 | .val _=>false
 | .obj _=>false
 |_=>true
noncomputable def Ent.Zv:Ent->Bool
 | .val _=>true
 |_=>false
theorem agS {e:Ent} (h:e.Zv=true):e.own=false:=by cases e <;> first |rfl |injection h
noncomputable abbrev aq:=List (Option Ent)
noncomputable def alA (K:PySem.W.Frag) (O:Addr->Prop) (H:Hp) (kvs:List (Key×D)) (ys:List (Key×V)):Prop:=kvs.map (·.1)=ys.map (·.1)/\aY K O H (kvs.map (·.2)) (ys.map (·.2))
noncomputable def qP (K:PySem.W.Frag) (H:Hp):Ob->V->Prop
 | .exc c,v=>∃a o C,v= .ref a/\H a=some (.frz o (.own a))/\o.cls= .ref C/\o.dict=none/\(∃vs,o.data= .fields vs)/\PySem.W.nsIn K mainGlobals c=some (some (.ref C))
 | .fn a,v=>v= .ref a/\∃o fd,H a=some (.frz o (.own a))/\o.data= .func fd
noncomputable def tY (K:PySem.W.Frag) (O:Addr->Prop) (H:Hp):Ent->V->Prop
 | .val d,v=>Rep K O H d v
 | .lst ds,v=>∃a xs,v= .ref a/\O a/\H a=some (.lst xs)/\aY K O H ds xs
 | .DY kvs,v=>∃a ys,v= .ref a/\O a/\H a=some (.dK ys)/\alA K O H kvs ys
 | .obj t,v=>qP K H t v
inductive EGt (K:PySem.W.Frag) (O:Addr->Prop) (H:Hp) (e:Ent) (σ:St) (i:Nat):Prop
 |mk (v:V) (h:σ[i]?=some (some v)) (r:tY K O H e v)
structure Env (K:PySem.W.Frag) (O:Addr->Prop) (H:Hp) (ρ:aq) (σ:St):Prop where
 get:∀(i:Nat) e,ρ[i]?=some (some e)->EGt K O H e σ i
 sep:∀(i j:Nat) e e' v,i≠j->ρ[i]?=some (some e)->ρ[j]?=some (some e')->e.own=true->e'.own=true->σ[i]?=some (some v)->σ[j]?=some (some v)->False
structure In (X:Cx) (O:Addr->Prop) (H:Hp) (ρ:aq) (σ:St):Prop where
 env:Env X.K O H ρ σ
 al:∀a,O a->∃o,H a=some o
 len:σ.length=X.N.length
 pA:ρ.length=X.N.length
section
variable {X:Cx} {O:Addr->Prop} {H H1:Hp} {ρ:aq} {σ:St} {K:PySem.W.Frag}
theorem qP.fz (s:∀b o u,H b=some (.frz o u)->H1 b=some (.frz o u)):∀{t:Ob} {v:V},qP K H t v->qP K H1 t v
 | .exc _,_,z=>by
  obtain⟨a,o,C,e,h,q,n⟩:=z
  exact⟨a,o,C,e,s _ _ _ h,q,n⟩
 | .fn _,_,z=>by
  obtain⟨e,o,fd,h,q⟩:=z
  exact⟨e,o,fd,s _ _ _ h,q⟩
theorem qP.same (s:Same H H1) {t:Ob} {v:V} (h:qP K H t v):qP K H1 t v:=h.fz λ Z Z Z q=>s _ _ q
theorem tY.same (s:Same H H1):∀{e:Ent} {v:V},tY K O H e v->tY K O H1 e v
 | .val d,v,h=>Rep.same s h
 | .lst ds,v,z=>by
  obtain⟨a,xs,e,o,h,r⟩:=z
  exact⟨a,xs,e,o,s _ _ h,r.same s⟩
 | .DY kvs,v,z=>by
  obtain⟨a,xs,e,o,h,k,r⟩:=z
  exact⟨a,xs,e,o,s _ _ h,k,r.same s⟩
 | .obj t,v,h=>qP.same s h
theorem In.same (i:In X O H ρ σ) (s:Same H H1):In X O H1 ρ σ:=
 ⟨⟨λ j e h=>let ⟨v,h1,h2⟩:=i.env.get j e h;⟨v,h1,h2.same s⟩,i.env.sep⟩,λ a h=>let ⟨o,q⟩:=i.al a h;⟨o,s _ _ q⟩,i.len,i.pA⟩
end
noncomputable def Exc (h:Heap) (e C:Addr) (T:Option Addr):Prop:=∃(oe:Obj) (vs:Array Value),h.get? e=some oe/\oe.cls= .ref C/\oe.dict=none/\oe.data= .fields vs/\match T with
 |none=>vs[1]?=some Value.none
 |some t=>vs[1]?=some (.ref t)/\t≠e/\∃(ot:Obj) (ts:Array Value),h.get? t=some ot/\ot.data= .fields ts/\ts[3]?=some Value.none
structure Dq (P:Program) (w:World) (fs:List Addr) (H:Hp) (s:Shared) (a C:Addr) (T:Option Addr) (s':Shared) (H':Hp):Prop where
 same:Same H H'
 un:Un fs [] H H' s.heap s'.heap
 hok:HOk P w H' s'.heap
 os:s'.os=s.os
 bare:AllBare s'.gens
 exc:Exc s'.heap a C T
 na:s.heap.get? a=none
 ha:H' a=none
 nt:∀t,T=some t->s.heap.get? t=none/\H' t=none
noncomputable def Uh (X:Cx) (c:Str) (σ:St) (H:Hp):Prop:=∀(H1:Hp) (pins:List (Addr×Obj)) (s:Shared) (a C:Addr) (T:Option Addr) (s':Shared) (H':Hp),Same H H1->Inv X pins σ H1 s->
 PySem.W.nsIn X.K mainGlobals c=some (some (.ref C))->Dq X.prog X.w (frs X.stack) H1 s a C T s' H'->X.xe (.ref a) s'
theorem Uh.same {X:Cx} {c:Str} {σ:St} {H H1:Hp} (h:Uh X c σ H) (s:Same H H1):Uh X c σ H1:=λ H2 pins s0 a C T s' H' s2=>h H2 pins s0 a C T s' H' (s.trans s2)
noncomputable def good {α β:Type} (X:Cx) (Rl:(Addr->Prop)->Hp->α->β->Prop) (O:Addr->Prop) (r:R α) (σ:St) (H:Hp) (Q:β->Hp->Prop):Prop:=match r with
 | .ok a=>∀b H',Same H H'->Rl O H' a b->Q b H'
 | .err c=>Uh X c σ H
 | .bad=>False
theorem good.same {α β:Type} {X:Cx} {Rl:(Addr->Prop)->Hp->α->β->Prop} {O:Addr->Prop} {r:R α} {σ:St} {H H1:Hp} {Q:β->Hp->Prop} (h:good X Rl O r σ H Q) (s:Same H H1):good X Rl O r σ H1 Q:=by
 cases r with
 |ok a=>exact λ b H' s' q=>h b H' (s.trans s') q
 |err c=>exact Uh.same (show Uh X c σ H from h) s
 |bad=>exact h
inductive TGd {α β:Type} (X:Cx) (Rl:(Addr->Prop)->Hp->α->β->Prop) (f:aq->R α) (σ:St) (H:Hp) (Q:β->Hp->Prop):Prop
 |mk (ρ:aq) (O:Addr->Prop) (j:In X O H ρ σ) (g:good X Rl O (f ρ) σ H Q):TGd X Rl f σ H Q
noncomputable def tG {α β:Type} (X:Cx) (Rl:(Addr->Prop)->Hp->α->β->Prop) (f:aq->R α):St->Hp->(β->Hp->Prop)->Prop:=λ σ H Q=>TGd X Rl f σ H Q
noncomputable abbrev rB:(Addr->Prop)->Hp->Bool->Bool->Prop:=λ Z Z a b=>a=b
noncomputable abbrev rD (X:Cx):(Addr->Prop)->Hp->D->V->Prop:=λ O H d v=>Rep X.K O H d v
noncomputable abbrev Iz (X:Cx):(Addr->Prop)->Hp->List D->List V->Prop:=λ O H d v=>aY X.K O H d v
noncomputable def DE (X:Cx) (e:Expr) (f:aq->R D):Prop:=PE X e (tG X (rD X) f)
noncomputable def DT (X:Cx) (e:Expr) (f:aq->R Bool):Prop:=PT X e (tG X rB f)
noncomputable def DW (X:Cx) (e:Expr) (f:aq->R Bool):Prop:=PW X e (tG X rB f)
noncomputable def DA (X:Cx) (es:List Expr) (f:aq->R (List D)):Prop:=PA X es (tG X (Iz X) f)
theorem PE.imp {X:Cx} {e:Expr} {t t':TE} (h:PE X e t) (w:∀σ H Q,t' σ H Q->t σ H Q):PE X e t':=λ pins s σ H Q I q=>h pins s σ H Q I (w σ H Q q)
theorem PT.imp {X:Cx} {e:Expr} {t t':TT} (h:PT X e t) (w:∀σ H Q,t' σ H Q->t σ H Q):PT X e t':=λ pins s σ H Q I q=>h pins s σ H Q I (w σ H Q q)
theorem PW.imp {X:Cx} {e:Expr} {t t':TT} (h:PW X e t) (w:∀σ H Q,t' σ H Q->t σ H Q):PW X e t':=λ wh pins s σ H Q I q=>h wh pins s σ H Q I (w σ H Q q)
theorem PA.imp {X:Cx} {e:List Expr} {t t':TA} (h:PA X e t) (w:∀σ H Q,t' σ H Q->t σ H Q):PA X e t':=λ pos pins s σ H Q I q=>h pos pins s σ H Q I (w σ H Q q)
section
variable {X:Cx} {O:Addr->Prop} {H:Hp} {ρ:aq} {σ:St}
theorem go {α β γ δ:Type} {Rl:(Addr->Prop)->Hp->α->β->Prop} {Rm:(Addr->Prop)->Hp->γ->δ->Prop} {f:aq->R α} {g:α->R γ} {Q:δ->Hp->Prop} {Q':β->Hp->Prop}
  (i:In X O H ρ σ) (h:good X Rm O ((f ρ).bind g) σ H Q)
  (k:∀a b H1,f ρ= .ok a->Same H H1->Rl O H1 a b->In X O H1 ρ σ->good X Rm O (g a) σ H1 Q->Q' b H1):tG X Rl f σ H Q':=by
 refine⟨ρ,O,i,?_⟩
 cases e:f ρ with
 |ok a=>rw[e] at h;exact λ b H1 s r=>k a b H1 e s r (i.same s) (good.same h s)
 |err c=>rw[e] at h;exact h
 |bad=>rw[e] at h;exact h
theorem fin {α β:Type} {Rl:(Addr->Prop)->Hp->α->β->Prop} {a:α} {b:β} {Q:β->Hp->Prop} (h:good X Rl O (.ok a) σ H Q) (r:Rl O H a b):Q b H:=h b H (Same.refl H) r
end
end Pu
namespace Pu
open PySem PySem.Spec L2
open PyProof.Rows hiding St
theorem Same.upd {H:Hp} {p:Addr} {o:HO} (h:H p=none):Same H (L2.upd H p o):=λ b u e=>by
 rw[upd_ne (ne_of_none e h)];exact e
theorem Rep.vP {X:Cx} {O:Addr->Prop} {H:Hp} {p:Addr} {ds:List D} {xs:List V} (h:H p=none) (r:aY X.K O H ds xs):Rep X.K O (upd H p (.tup xs)) (.tup ds) (.ref p):=
 jM (SqT.of upd_same) (r.same (Same.upd h))
theorem In.vZ {X:Cx} {O:Addr->Prop} {H:Hp} {ρ:aq} {σ:St} (i:In X O H ρ σ) {p:Addr} (h:H p=none):¬O p:=λ z=>by
 obtain⟨o,e⟩:=i.al p z
 rw[h] at e;injection e
theorem Rep.nM {X:Cx} {O:Addr->Prop} {H:Hp} {p:Addr} {ds:List D} {xs:List V} (h:H p=none) (n:¬O p) (r:aY X.K O H ds xs):Rep X.K O (upd H p (.lst xs)) (.lst ds) (.ref p):=
 vO (SqL.of upd_same) n (r.same (Same.upd h))
section
variable {X:Cx} {a b c:Expr} {f g h:aq->R D} {pos:Pos}
noncomputable def ak (ρ:aq) (i:Nat):R D:=match ρ[i]? with
 |some (some (.val d))=> .ok d
 |_=> .bad
theorem dv (i:Nat) {x:Str} {pos:Pos} (hN:autoParam (X.N[i]?=some x) bD._auto_1) (hv:autoParam (Vis X.env.scope x) Zt._auto_1) (hd:autoParam ((x ==("__debug__" :Str))=false) eY._auto_1) (hcd:autoParam ((x ==("__classdict__" :Str))=false) eY._auto_1):
  DE X (.Name x pos) (λ ρ=>ak ρ i):=by
 refine PE.imp (pe_var hN hv hd hcd) λ σ H Q h=>?_
 obtain⟨ρ,O,j,h⟩:=h
 have h:good X (rD X) O (ak ρ i) σ H Q:=h
 unfold ak at h
 rcases e:ρ[i]? with _ |_ |(d |_ |_ |_) <;> rw[e] at h
 ·exact h.elim
 ·exact h.elim
 ·obtain⟨v,e1,r⟩:=j.env.get i _ e
  exact⟨v,e1,fin h r⟩
 ·exact h.elim
 ·exact h.elim
 ·exact h.elim
theorem Nr {e:Expr} {d:D} {v:V} (h:PE X e (tC v)) (r:∀O H,Rep X.K O H d v):DE X e (λ Z=> .ok d):=PE.imp h λ σ H Q h=>by
 obtain⟨ρ,O,j,h⟩:=h
 exact fin h (r O H)
theorem aU {i:Int} {j pos}:DE X (.Constant (.int i) j pos) (λ Z=> .ok (.int i)):=Nr pe_int λ Z Z=>cO i
theorem pU {i:Bool} {j pos}:DE X (.Constant (.bool i) j pos) (λ Z=> .ok (.bl i)):=Nr pe_bl λ Z Z=>gY i
theorem mU {j pos}:DE X (.Constant .none j pos) (λ Z=> .ok .non):=Nr pe_non λ Z Z=>qO
theorem nZ {x:Str} {j pos}:DE X (.Constant (.str x) j pos) (λ Z=> .ok (.str x)):=Nr pe_str λ Z Z=>Nq x
theorem qQ {x:Str} {i:Int} {t:Tok} {pos:Pos} (hg:Gl X x) (hm:X.mg x=some (.int i t)) (hd:autoParam ((x ==("__debug__" :Str))=false) eY._auto_1):DE X (.Name x pos) (λ Z=> .ok (.int i)):=
 Nr (pe_glob (v:= .int i) hg hm ⟨t,rfl⟩ hd) λ Z Z=>cO i
noncomputable def lD (X:Cx) (o:Value->Value->Sem Value) (k:D->D->R D):Prop:=∃r:R2,OpR X o r/\
 ∀(ρ:aq) (O:Addr->Prop) (σ:St) (H:Hp) (Q:VK) (x y:V) (dx dy:D),In X O H ρ σ->Rep X.K O H dx x->Rep X.K O H dy y->good X (rD X) O (k dx dy) σ H Q->r x y H Q
noncomputable def bin (f g:aq->R D) (k:D->D->R D):aq->R D:=λ ρ=>(f ρ).bind λ x=>(g ρ).bind λ y=>k x y
theorem Ko {r:R2} {k:D->D->R D} {σ:St} {H:Hp} {Q:VK}
  (hr:∀(ρ:aq) (O:Addr->Prop) (σ:St) (H:Hp) (Q:VK) (x y:V) (dx dy:D),In X O H ρ σ->Rep X.K O H dx x->Rep X.K O H dy y->good X (rD X) O (k dx dy) σ H Q->r x y H Q)
  (h:tG X (rD X) (bin f g k) σ H Q):tOp r (tG X (rD X) f) (tG X (rD X) g) σ H Q:=by
 obtain⟨ρ,O,j,h⟩:=h
 refine go j h λ dx x H1 e1 s1 r1 j1 h1=>?_
 exact go j1 h1 λ dy y H2 e2 s2 r2 j2 h2=>hr ρ O σ H2 Q x y dx dy j2 (r1.same s2) r2 h2
theorem aX {op:Operator} {k:D->D->R D} (ho:lD X (binaryOp op) k) (ha:DE X a f) (hb:DE X b g):DE X (.BinOp a op b pos) (bin f g k):=by
 obtain⟨r,ho,hr⟩:=ho
 exact PE.imp (pe_op ho ha hb) λ σ H Q h=>Ko hr h
theorem Kp {op:CmpOp} {k:D->D->R D} (ho:lD X (compareOp op) k) (ha:DE X a f) (hb:DE X b g) (hm:autoParam (behindInMarks op b=false) ap9._auto_1):DE X (.Compare a [op] [b] pos) (bin f g k):=by
 obtain⟨r,ho,hr⟩:=ho
 exact PE.imp (pe_cmpR ho ha hb hm) λ σ H Q h=>Ko hr h
noncomputable def asB:D->R Bool
 | .bl b=> .ok b
 |_=> .bad
noncomputable def c7 (f:aq->R D):aq->R Bool:=λ ρ=>(f ρ).bind asB
theorem Ui {t:TE} {k:aq->R D} {σ:St} {H:Hp} {Q:Bool->Hp->Prop} (w:∀Q,tG X (rD X) k σ H Q->t σ H Q) (h:tG X rB (c7 k) σ H Q):tTest t σ H Q:=by
 refine w _ ?_
 obtain⟨ρ,O,j,h⟩:=h
 refine go j h λ d x H1 e1 s1 r1 j1 h1=>?_
 cases d with
 |bl b=>exact⟨b,r1.bl,fin h1 rfl⟩
 |_=>exact h1.elim
theorem dg {op:CmpOp} {k:D->D->R D} (ho:lD X (compareOp op) k) (ha:DE X a f) (hb:DE X b g) (hm:autoParam (behindInMarks op b=false) ap9._auto_1):DT X (.Compare a [op] [b] pos) (c7 (bin f g k)):=by
 obtain⟨r,ho,hr⟩:=ho
 exact PT.imp (pt_cmpR ho ha hb hm) λ σ H Q h=>Ui (λ Q h=>Ko hr h) h
theorem sZ {e:Expr} (h:DE X e f) (he:autoParam (∀whole,isTrue e X.env whole=(do let v <-whole;standAt e.pos;holding [v] (truthy v))) Zr._auto_1):DT X e (c7 f):=
 PT.imp (pt_val h he) λ σ H Q h=>Ui (t:=tG X (rD X) f) (λ Q h=>h) h
noncomputable def iD (k:Int->Int->R D):D->D->R D
 | .int i,.int j=>k i j
 |_,_=> .bad
set_option tactic.hygienic true in
theorem Hx {o:Value->Value->Sem Value} {C:Int->Int->Prop} {g:Int->Int->V} {k:Int->Int->R D} (ho:OpR X o (rI C g)) (hk:∀i j,k i j= .bad\/∃d,k i j= .ok d/\C i j/\∀K O H,Rep K O H d (g i j)):lD X o (iD k):=by
 refine⟨_,ho,λ ρ O σ H Q x y dx dy j0 rx ry h=>?_⟩
 cases dx <;> cases dy <;> first
  |exact h.elim
  |skip
 rename_i i j
 rcases hk i j with e |⟨d,e,c,r⟩
 ·have h':good X (rD X) O (k i j) σ H Q:=h
  rw[e] at h';exact h'.elim
 ·have h':good X (rD X) O (k i j) σ H Q:=h
  rw[e] at h'
  exact⟨i,j,rx.int,ry.int,c,fin h' (r _ _ _)⟩
set_option tactic.hygienic true in
theorem wg {o:Value->Value->Sem Value} {g:Int->Int->V} {k:Int->Int->R D} (ho:OpR X o (rI0 g)) (hk:∀i j,∃d,k i j= .ok d/\∀K O H,Rep K O H d (g i j)):lD X o (iD k):=by
 refine⟨_,ho,λ ρ O σ H Q x y dx dy j0 rx ry h=>?_⟩
 cases dx <;> cases dy <;> first
  |exact h.elim
  |skip
 rename_i i j
 obtain⟨d,e,r⟩:=hk i j
 have h':good X (rD X) O (k i j) σ H Q:=h
 rw[e] at h'
 exact⟨i,j,rx.int,ry.int,fin h' (r _ _ _)⟩
noncomputable def fD:D->D->R D:=iD λ i j=> .ok (.int (i - j))
noncomputable def jH:D->D->R D:=iD λ i j=>if (-(2 ^ 64) < i/\i < 2 ^ 64)\/(-(2 ^ 64) < j/\j < 2 ^ 64) then .ok (.int (i*j)) else .bad
noncomputable def jJ:D->D->R D:=iD λ i j=>if 0 < j/\j < 2 ^ 64 then .ok (.int (i / j)) else .bad
noncomputable def iZ:D->D->R D:=iD λ i j=>if 0 < j then .ok (.int (i % j)) else .bad
noncomputable def yO:D->D->R D:=iD λ i j=>if 0<=j/\j<=1000000/\i.natAbs < 2 ^ 64 then .ok (.int (i ^ j.toNat)) else .bad
noncomputable def ltI:D->D->R D:=iD λ i j=> .ok (.bl (decide (i < j)))
noncomputable def Kq:D->D->R D:=iD λ i j=> .ok (.bl (decide (i<=j)))
noncomputable def Ae:D->D->R D:=iD λ i j=> .ok (.bl (decide (j < i)))
noncomputable def geI:D->D->R D:=iD λ i j=> .ok (.bl (decide (j<=i)))
theorem dX:lD X (binaryOp .Sub) fD:=wg op_sub λ i j=>⟨_,rfl,λ Z Z Z=>cO _⟩
theorem aaB:lD X (compareOp .Lt) ltI:=wg op_lt λ i j=>⟨_,rfl,λ Z Z Z=>gY _⟩
theorem Bm:lD X (compareOp .LtE) Kq:=wg op_le λ i j=>⟨_,rfl,λ Z Z Z=>gY _⟩
theorem aaC:lD X (compareOp .Gt) Ae:=wg op_gt λ i j=>⟨_,rfl,λ Z Z Z=>gY _⟩
theorem alB:lD X (compareOp .GtE) geI:=wg op_ge λ i j=>⟨_,rfl,λ Z Z Z=>gY _⟩
theorem Hy {c:Prop} [Decidable c] (d:D) {P:D->Prop} (hP:c->P d):(if c then R.ok d else R.bad)=R.bad\/∃d',(if c then R.ok d else R.bad)=R.ok d'/\c/\P d':=by
 by_cases h:c
 ·exact .inr ⟨d,by rw[if_pos h],h,hP h⟩
 ·exact .inl (by rw[if_neg h])
theorem tu:lD X (binaryOp .Mult) jH:=Hx op_mul λ i j=>Hy (.int (i*j)) (P:=λ d=>∀K O H,Rep K O H d (.int (i*j))) λ Z Z Z Z=>cO _
theorem acY {j:Int} (h0:0 < j) (h:j < 2 ^ 64):j.natAbs.log2 < 9000:=by
 have h1:j.natAbs≠0:=by exact ame h0
 have h2:j.natAbs < 2 ^ 64:=by omega
 have h3:j.natAbs.log2 < 64:=(Nat.log2_lt h1).mpr h2
 exact amf h3
theorem ae9:OpR X (binaryOp .FloorDiv) (rI (λ Z j=>0 < j/\j < 2 ^ 64) λ i j=> .int (i / j)):=opI λ i j Z Z Z Z Z hc q=>by
 refine floordiv_int (by have:=hc.1;exact amg hc) ?_ (.inl (PyProof.noPylong_of_log2 (acY hc.1 hc.2)))
 rw[Int.fdiv_eq_ediv_of_nonneg _ (by have:=hc.1;exact Int.le_of_lt this)]
 exact q
theorem wj:lD X (binaryOp .FloorDiv) jJ:=Hx ae9 λ i j=>Hy (.int (i / j)) (P:=λ d=>∀K O H,Rep K O H d (.int (i / j))) λ Z Z Z Z=>cO _
theorem tD:lD X (binaryOp .Mod) iZ:=Hx op_mod λ i j=>Hy (.int (i % j)) (P:=λ d=>∀K O H,Rep K O H d (.int (i % j))) λ Z Z Z Z=>cO _
theorem acZ:lD X (binaryOp .Pow) yO:=Hx op_pow λ i j=>Hy (.int (i ^ j.toNat)) (P:=λ d=>∀K O H,Rep K O H d (.int (i ^ j.toNat))) λ Z Z Z Z=>cO _
noncomputable def Uj (f g h:aq->R D) (k l:D->D->R D):aq->R D:=λ ρ=>(f ρ).bind λ x=>(g ρ).bind λ y=>(k x y).bind λ z=>match z with
 | .bl true=>(h ρ).bind λ w=>l y w
 | .bl false=> .ok (.bl false)
 |_=> .bad
noncomputable def yP (f g:aq->R D):aq->R D:=λ ρ=>(f ρ).bind λ x=>match x with
 | .bl true=>g ρ
 | .bl false=> .ok (.bl false)
 |_=> .bad
noncomputable def aiL (f:aq->R D):aq->R D:=λ ρ=>(f ρ).bind λ x=>match x with
 | .bl b=> .ok (.bl (!b))
 |_=> .bad
variable {rest:List Expr}
theorem Af {op} (h:DE X a f):DE X (.BoolOp op [a] pos) f:=pe_one h
theorem wk (ha:DE X a f) (hb:DE X (.BoolOp .And (b::rest) pos) g):DE X (.BoolOp .And (a::b::rest) pos) (yP f g):=by
 refine PE.imp (pe_and ha hb) λ σ H Q h=>?_
 obtain⟨ρ,O,j,h⟩:=h
 refine go j h λ d x H1 e1 s1 r1 j1 h1=>?_
 cases d with
 | bl k=>
  cases k with
  |true=>exact⟨true,r1.bl,by rw[if_pos rfl];exact⟨ρ,O,j1,h1⟩⟩
  |false=>exact⟨false,r1.bl,by rw[if_neg Bool.false_ne_true];exact fin h1 (gY _)⟩
 |_=>exact h1.elim
theorem aiM (ha:DE X a f):DE X (.UnaryOp .Not a pos) (aiL f):=by
 refine PE.imp (pe_not ha) λ σ H Q h=>?_
 obtain⟨ρ,O,j,h⟩:=h
 refine go j h λ d x H1 e1 s1 r1 j1 h1=>?_
 cases d with
 |bl k=>exact⟨k,r1.bl,fin h1 (gY _)⟩
 |_=>exact h1.elim
noncomputable def pB (f g:aq->R Bool):aq->R Bool:=λ ρ=>(f ρ).bind λ x=>if x=true then g ρ else .ok false
noncomputable def Ea (f g:aq->R Bool):aq->R Bool:=λ ρ=>(f ρ).bind λ x=>if x=true then .ok true else g ρ
noncomputable def pW (f:aq->R Bool):aq->R Bool:=λ ρ=>(f ρ).bind λ x=> .ok (!x)
variable {p q:aq->R Bool}
theorem Hz (ha:DT X a p):DW X (.BoolOp .And [a] pos) p:=pw_and1 ha
theorem Eb (ha:DT X a p):DW X (.BoolOp .Or [a] pos) p:=pw_or1 ha
theorem Kr (ha:DT X a p) (hb:DW X (.BoolOp .And (b::rest) pos) q):DW X (.BoolOp .And (a::b::rest) pos) (pB p q):=by
 refine PW.imp (pw_and ha hb) λ σ H Q h=>?_
 obtain⟨ρ,O,j,h⟩:=h
 refine go j h λ d x H1 e1 s1 r1 j1 h1=>?_
 subst r1
 cases d with
 |true=>rw[if_pos rfl] at h1 |-;exact⟨ρ,O,j1,h1⟩
 |false=>rw[if_neg Bool.false_ne_true] at h1 |-;exact fin h1 rfl
theorem HB (ha:DT X a p) (hb:DW X (.BoolOp .Or (b::rest) pos) q):DW X (.BoolOp .Or (a::b::rest) pos) (Ea p q):=by
 refine PW.imp (pw_or ha hb) λ σ H Q h=>?_
 obtain⟨ρ,O,j,h⟩:=h
 refine go j h λ d x H1 e1 s1 r1 j1 h1=>?_
 subst r1
 cases d with
 |true=>rw[if_pos rfl] at h1 |-;exact fin h1 rfl
 |false=>rw[if_neg Bool.false_ne_true] at h1 |-;exact⟨ρ,O,j1,h1⟩
theorem DW.dt {e:Expr} (h:DW X e p):DT X e p:=h _
theorem mV (ha:DT X a p):DT X (.UnaryOp .Not a pos) (pW p):=by
 refine PT.imp (pt_not ha) λ σ H Q h=>?_
 obtain⟨ρ,O,j,h⟩:=h
 refine go j h λ d x H1 e1 s1 r1 j1 h1=>?_
 subst r1
 exact fin h1 rfl
noncomputable def Ks (c:aq->R Bool) (f g:aq->R D):aq->R D:=λ ρ=>(c ρ).bind λ x=>if x=true then f ρ else g ρ
theorem aaD (hc:DT X c p) (ha:DE X a f) (hb:DE X b g):DE X (.IfExp c a b pos) (Ks p f g):=by
 refine PE.imp (pe_ifExp hc ha hb) λ σ H Q h=>?_
 obtain⟨ρ,O,j,h⟩:=h
 refine go j h λ d x H1 e1 s1 r1 j1 h1=>?_
 subst r1
 cases d with
 |true=>rw[if_pos rfl] at h1 |-;exact⟨ρ,O,j1,h1⟩
 |false=>rw[if_neg Bool.false_ne_true] at h1 |-;exact⟨ρ,O,j1,h1⟩
noncomputable def ao (f:aq->R D) (g:aq->R (List D)):aq->R (List D):=λ ρ=>(f ρ).bind λ x=>(g ρ).bind λ xs=> .ok (x::xs)
variable {es:List Expr} {fa:aq->R (List D)}
theorem aA:DA X [] (λ Z=> .ok []):=PA.imp pa_nil λ σ H Q h=>by
 obtain⟨ρ,O,j,h⟩:=h
 exact fin h .nil
theorem aj (ha:DE X a f) (hr:DA X es fa) (hs:autoParam (starEach (a::es) X.env=(false,eval a X.env)::starEach es X.env) bD._auto_1):DA X (a::es) (ao f fa):=by
 refine PA.imp (pa_cons ha hr hs) λ σ H Q h=>?_
 obtain⟨ρ,O,j,h⟩:=h
 refine go j h λ d x H1 e1 s1 r1 j1 h1=>?_
 exact go j1 h1 λ ds xs H2 e2 s2 r2 j2 h2=>fin h2 (.cons (r1.same s2) r2)
noncomputable def cap (k:List D->D) (ds:List D):R D:=if ds.length<=1000000 then .ok (k ds) else .bad
theorem gk:1000000<=sizeLine:=by rw[sizeLine_eq];decide
noncomputable def gB (fa:aq->R (List D)):aq->R D:=λ ρ=>(fa ρ).bind (cap .tup)
noncomputable def jc (fa:aq->R (List D)):aq->R D:=λ ρ=>(fa ρ).bind (cap .lst)
set_option tactic.hygienic true in
theorem eZ {x1} (h:DA X es fa):DE X (.Tuple es x1 pos) (gB fa):=by
 refine PE.imp (pe_tup h) λ σ H Q h=>?_
 obtain⟨ρ,O,j,h⟩:=h
 refine go j h λ ds xs H1 e1 s1 r1 j1 h1=>?_
 unfold cap at h1
 split at h1
 ·rename_i hl
  exact⟨by rw[<-r1.length];exact z0b hl gk,λ p hp=>h1 _ _ (Same.upd hp) (Rep.vP hp r1)⟩
 ·exact h1.elim
set_option tactic.hygienic true in
theorem fJ (h:DA X es fa):DE X (.List es pos) (jc fa):=by
 refine PE.imp (pe_lst h) λ σ H Q h=>?_
 obtain⟨ρ,O,j,h⟩:=h
 refine go j h λ ds xs H1 e1 s1 r1 j1 h1=>?_
 unfold cap at h1
 split at h1
 ·rename_i hl
  exact⟨by rw[<-r1.length];exact z0b hl gk,λ p hp=>h1 _ _ (Same.upd hp) (Rep.nM hp (j1.vZ hp) r1)⟩
 ·exact h1.elim
noncomputable def cI:D->D->R D
 | .tup ds,.int i=>match atI ds i with |some d=> .ok d |none=> .bad
 | .lst ds,.int i=>match atI ds i with |some d=> .ok d |none=> .bad
 |_,_=> .bad
theorem aY.atI {K:PySem.W.Frag} {O:Addr->Prop} {H:Hp} {ds:List D} {vs:List V} {i:Int} {d:D} (r:aY K O H ds vs) (e:atI ds i=some d):∃v,atI vs i=some v/\Rep K O H d v:=by
 unfold L2.atI at e |-
 rw[r.length] at e
 cases q:ixN vs.length i with
 |none=>rw[q] at e;injection e
 | some k=>
  rw[q] at e
  obtain⟨v,h1,h2⟩:=r.get (i:=k) (d:=d) e
  exact⟨v,h1,h2⟩
set_option tactic.hygienic true in
theorem bY (ha:DE X a f) (hb:DE X b g) (hs:autoParam (PlainIx b) aiI._auto_1):DE X (.Subscript a b pos) (bin f g cI):=by
 refine PE.imp (pe_ix ix_seq ha hb hs) λ σ H Q h=>Ko (λ ρ O σ H Q x y dx dy j0 rx ry h=>?_) h
 cases dx <;> cases dy <;> first
  |exact h.elim
  |skip
 ·rename_i ds i
  obtain⟨p,xs,rfl,hq,r⟩:=rx.tup
  have h':good X (rD X) O (match L2.atI ds i with |some d=>R.ok d |none=>R.bad) σ H Q:=h
  cases e:L2.atI ds i with
  |none=>rw[e] at h';exact h'.elim
  | some d=>
   rw[e] at h'
   obtain⟨v,e1,rv⟩:=r.atI e
   exact .inr (.inl ⟨p,xs,i,v,rfl,ry.int,hq,e1,fin h' rv⟩)
 ·rename_i ds i
  obtain⟨p,xs,rfl,hq,_,r⟩:=rx.lst
  have h':good X (rD X) O (match L2.atI ds i with |some d=>R.ok d |none=>R.bad) σ H Q:=h
  cases e:L2.atI ds i with
  |none=>rw[e] at h';exact h'.elim
  | some d=>
   rw[e] at h'
   obtain⟨v,e1,rv⟩:=r.atI e
   exact .inl ⟨p,xs,i,v,rfl,ry.int,hq,e1,fin h' rv⟩
noncomputable def CallD (X:Cx) (u:Value) (k:List D->R D):Prop:=∃r:List V->Hp->VK->Prop,CallR X u r/\
 ∀(ρ:aq) (O:Addr->Prop) (σ:St) (H:Hp) (Q:VK) (xs:List V) (ds:List D),In X O H ρ σ->aY X.K O H ds xs->good X (rD X) O (k ds) σ H Q->r xs H Q
noncomputable def aH (k:List D->R D) (fa:aq->R (List D)):aq->R D:=λ ρ=>(fa ρ).bind k
variable {x:Str} {pp:Pos} {k:List D->R D} {id T:String}
theorem bA (hc:CallD X (.builtin id) k) (hg:Gl X x) (hm:X.mg x=none) (hv:bootBuiltins x=some (.builtin id)) (ha:DA X (a::es) fa) (hn:autoParam (x≠"__name__") eY._auto_1) (hdb:autoParam ((x ==("__debug__" :Str))=false) eY._auto_1)
  (he:autoParam (starEach (a::es) X.env=(false,eval a X.env)::starEach es X.env) bD._auto_1) (hpl:autoParam ((backTo pos (starEach es X.env)).any (·.1)=false) bD._auto_1):DE X (.Call (.Name x pp) (a::es) [] pos) (aH k fa):=by
 obtain⟨r,hc,hr⟩:=hc
 refine PE.imp (pe_callB hc hg hm hv ha hn hdb he hpl) λ σ H Q h=>?_
 obtain⟨ρ,O,j,h⟩:=h
 exact go j h λ ds xs H1 e1 s1 r1 j1 h1=>hr ρ O σ H1 Q xs ds j1 r1 h1
theorem jZ (hc:CallD X (.type T) k) (hg:Gl X x) (hm:X.mg x=none) (hv:bootBuiltins x=some (.type T)) (ha:DA X (a::es) fa) (hn:autoParam (x≠"__name__") eY._auto_1) (hdb:autoParam ((x ==("__debug__" :Str))=false) eY._auto_1)
  (he:autoParam (starEach (a::es) X.env=(false,eval a X.env)::starEach es X.env) bD._auto_1) (hpl:autoParam ((backTo pos (starEach es X.env)).any (·.1)=false) bD._auto_1):DE X (.Call (.Name x pp) (a::es) [] pos) (aH k fa):=by
 obtain⟨r,hc,hr⟩:=hc
 refine PE.imp (pe_callTy hc hg hm hv ha hn hdb he hpl) λ σ H Q h=>?_
 obtain⟨ρ,O,j,h⟩:=h
 exact go j h λ ds xs H1 e1 s1 r1 j1 h1=>hr ρ O σ H1 Q xs ds j1 r1 h1
end
section
variable {X:Cx} {a b c:Expr} {f g h:aq->R D} {pos:Pos}
theorem ac0 {r r':R2} {k l:D->D->R D} {σ:St} {H:Hp} {Q:VK}
  (hr:∀(ρ:aq) (O:Addr->Prop) (σ:St) (H:Hp) (Q:VK) (x y:V) (dx dy:D),In X O H ρ σ->Rep X.K O H dx x->Rep X.K O H dy y->good X (rD X) O (k dx dy) σ H Q->r x y H Q)
  (hl:∀(ρ:aq) (O:Addr->Prop) (σ:St) (H:Hp) (Q:VK) (x y:V) (dx dy:D),In X O H ρ σ->Rep X.K O H dx x->Rep X.K O H dy y->good X (rD X) O (l dx dy) σ H Q->r' x y H Q)
  (q:tG X (rD X) (Uj f g h k l) σ H Q):tChain r r' (tG X (rD X) f) (tG X (rD X) g) (tG X (rD X) h) σ H Q:=by
 obtain⟨ρ,O,j,q⟩:=q
 refine go j q λ dx x H1 e1 s1 r1 j1 h1=>?_
 refine go j1 h1 λ dy y H2 e2 s2 r2 j2 h2=>?_
 have r1':=r1.same s2
 cases e3:k dx dy with
 |bad=>rw[e3] at h2;exact h2.elim
 |err n=>rw[e3] at h2;exact hr ρ O σ H2 _ x y dx dy j2 r1' r2 (by rw[e3];exact h2)
 | ok z=>
  rw[e3] at h2
  refine hr ρ O σ H2 _ x y dx dy j2 r1' r2 ?_
  rw[e3]
  intro v H3 s3 r3
  have j3:=j2.same s3
  cases z with
  | bl t=>
   refine⟨t,r3.bl,?_⟩
   cases t with
   | true=>
    rw[if_pos rfl]
    exact go j3 (good.same h2 s3) λ dw w H4 e4 s4 r4 j4 h4=>hl ρ O σ H4 Q y w dy dw j4 (r2.same (s3.trans s4)) r4 h4
   | false=>
    rw[if_neg Bool.false_ne_true]
    exact fin (good.same h2 s3) (gY _)
  |_=>exact h2.elim
theorem Jp {op op':CmpOp} {k l:D->D->R D} (ho:lD X (compareOp op) k) (ho':lD X (compareOp op') l) (ha:DE X a f) (hb:DE X b g) (hc:DE X c h)
  (hm:autoParam (lastMarks [op,op'] [b,c]=false) ap8._auto_1):DE X (.Compare a [op,op'] [b,c] pos) (Uj f g h k l):=by
 obtain⟨r,ho,hr⟩:=ho
 obtain⟨r',ho',hr'⟩:=ho'
 exact PE.imp (pe_chain ho ho' ha hb hc hm) λ σ H Q q=>ac0 hr hr' q
end
noncomputable def YAt (K:PySem.W.Frag) (O:Addr->Prop) (J:It) (xs:List D) (H:Hp):Prop:=
 ∀i:Nat,(∀d,xs[i]?=some d->J.go i H/\∀x H',J.yld i H x H'->Same H H'/\Rep K O H' d x)/\(xs.length<=i->J.stop i H)
noncomputable def YR (K:PySem.W.Frag) (O:Addr->Prop) (H:Hp) (J:It) (xs:List D):Prop:=∀O' H',iK K O H O' H'->YAt K O' J xs H'
noncomputable abbrev rIt (X:Cx):(Addr->Prop)->Hp->List D->It->Prop:=λ O H xs J=>YR X.K O H J xs
noncomputable def DI (X:Cx) (tg iter:Expr) (fi:aq->R (List D)):Prop:=PI X tg iter (tG X (rIt X) fi)
theorem PI.imp {X:Cx} {tg e:Expr} {t t':TI} (h:PI X tg e t) (w:∀σ H Q,t' σ H Q->t σ H Q):PI X tg e t':=λ pins s σ H Q I q=>h pins s σ H Q I (w σ H Q q)
section
variable {X:Cx} {tg:Expr}
noncomputable def amS (K:PySem.W.Frag) (tl:TE):TI:=λ σ H R=>tl σ H λ x H1=>∃a,x= .ref a/\(((∃xs,SqL K H1 a xs)/\R (Itl K a) H1)\/((∃xs,SqT K H1 a xs)/\R (Itt K a) H1))
theorem aiN {l:Expr} {tl:TE} (hl:PE X l tl):PI X tg l (amS X.K tl):=by
 intro pins s σ H R I h
 refine thn (hl pins s σ H _ I h) λ v s1 bW=>?_
 obtain⟨x,H1,I1,r1,q1⟩:=bW
 obtain⟨a,e,q⟩:=q1
 subst e
 obtain rfl:=r1
 have fp:∀b∈[s1.heap.objs.size],FpOk X pins H1 b:=λ b hb=>by
  have e:b=s1.heap.objs.size:=by simpa using hb
  subst e
  exact I1.fpOk (z0g _) (I1.hok.fresh (z0g _))
 rcases q with⟨⟨xs,hq⟩,q⟩ |⟨⟨xs,hq⟩,q⟩
 ·obtain⟨its,rv,p,hz⟩:=I1.list hq
  refine wpAny_pyIter_list p.isList ?_
  exact⟨s1.heap.objs.size,[s1.heap.objs.size],_,_,H1,rfl,I1.kept (t':=s1.toks) λ b o e=>z1a _ e,turn_list a _,⟨_,z1f _ rfl,rfl,rfl⟩,fp,q⟩
 ·obtain⟨its,rv,p,hz⟩:=I1.tuple hq
  refine wpAny_pyIter_tuple (show s1.heap.IsTuple a its.toArray from p) ?_
  exact⟨s1.heap.objs.size,[s1.heap.objs.size],_,_,H1,rfl,I1.kept (t':=s1.toks) λ b o e=>z1a _ e,turn_tuple a _,⟨_,z1f _ rfl,rfl,rfl⟩,fp,q⟩
noncomputable def jC:D->R (List D)
 | .tup ds=> .ok ds
 | .lst ds=> .ok ds
 |_=> .bad
theorem YR.lst {K:PySem.W.Frag} {O:Addr->Prop} {H:Hp} {a:Addr} {ds:List D} {xs:List V} (h:SqL K H a xs) (n:¬O a) (r:aY K O H ds xs):YR K O H (Itl K a) ds:=by
 intro O' H' q
 have h':SqL K H' a xs:=SqL.ext q.ext n h
 have r':=r.go q
 intro i
 refine⟨λ d e=>?_,λ e=>⟨xs,h',by rw[<-r.length];exact e⟩⟩
 obtain⟨v,e1,rv⟩:=r'.get e
 refine⟨⟨xs,v,h',e1⟩,λ x H2 y=>?_⟩
 obtain⟨eH,y⟩:=y
 subst eH
 have:=y xs h'
 rw[e1] at this;(injection this with aD;subst aD)
 exact⟨Same.refl _,rv⟩
theorem YR.tup {K:PySem.W.Frag} {O:Addr->Prop} {H:Hp} {a:Addr} {ds:List D} {xs:List V} (h:SqT K H a xs) (r:aY K O H ds xs):YR K O H (Itt K a) ds:=by
 intro O' H' q
 have h':SqT K H' a xs:=SqT.ext q.ext h
 have r':=r.go q
 intro i
 refine⟨λ d e=>?_,λ e=>⟨xs,h',by rw[<-r.length];exact e⟩⟩
 obtain⟨v,e1,rv⟩:=r'.get e
 refine⟨⟨xs,v,h',e1⟩,λ x H2 y=>?_⟩
 obtain⟨eH,y⟩:=y
 subst eH
 have:=y xs h'
 rw[e1] at this;(injection this with aD;subst aD)
 exact⟨Same.refl _,rv⟩
noncomputable def eF (f:aq->R D):aq->R (List D):=λ ρ=>(f ρ).bind jC
theorem dO {l:Expr} {f:aq->R D} (h:DE X l f):DI X tg l (eF f):=by
 refine PI.imp (aiN h) λ σ H Q q=>?_
 obtain⟨ρ,O,j,q⟩:=q
 refine go j q λ d x H1 e1 s1 r1 j1 h1=>?_
 cases d with
 | tup ds=>
  obtain⟨a,xs,rfl,hq,r⟩:=r1.tup
  exact⟨a,rfl,.inr ⟨⟨xs,hq⟩,fin h1 (YR.tup hq r)⟩⟩
 | lst ds=>
  obtain⟨a,xs,rfl,hq,n,r⟩:=r1.lst
  exact⟨a,rfl,.inl ⟨⟨xs,hq⟩,fin h1 (YR.lst hq n r)⟩⟩
 |_=>exact h1.elim
noncomputable def upto (lo:Int) (n:Nat):List D:=(List.range n).map λ (i:Nat)=>D.int (lo+(i:Int))
theorem YR.rng {K:PySem.W.Frag} {O:Addr->Prop} {H:Hp} (lo:Int) (n:Nat):YR K O H (Itr lo n) (upto lo n):=by
 intro O' H' q i
 have hl:(upto lo n).length=n:=by simp[upto]
 refine⟨λ d e=>?_,λ e=>by rw[hl] at e;exact e⟩
 have hi:i < n:=by rw[<-hl];exact (z1b e).1
 have e2:d=D.int (lo+(i:Int)):=by
  simp only[upto,z2b,List.getElem?_range hi] at e
  exact (Option.some.inj e).symm
 subst e2
 refine⟨hi,λ x H2 y=>?_⟩
 obtain⟨eH,y⟩:=y
 subst eH;subst y
 exact⟨Same.refl _,cO _⟩
noncomputable def aaE {α:Type} (k:Int->R α):List D->R α
 |[.int i]=>k i
 |_=> .bad
noncomputable def aaF {α:Type} (k:Int->Int->R α):List D->R α
 |[.int i,.int j]=>k i j
 |_=> .bad
noncomputable def afa {α:Type} (k l:List D->R α):List D->R α
 |[.tup ds]=>k ds
 |[.lst ds]=>l ds
 |_=> .bad
noncomputable def afb {α:Type} (l:List D->R α):List D->R α
 |[.lst ds]=>l ds
 |_=> .bad
noncomputable def on1 {α:Type} (k:D->R α):List D->R α
 |[x]=>k x
 |_=> .bad
noncomputable def on2 {α:Type} (k:D->D->R α):List D->R α
 |[x,y]=>k x y
 |_=> .bad
theorem aiO {k:D->R α} (h:good X Rl O (on1 k ds) σ H Q):∃x,ds=[x]/\good X Rl O (k x) σ H Q:=by
 rcases ds with _ |⟨d,_ |⟨_,_⟩⟩
 ·exact h.elim
 ·exact⟨d,rfl,h⟩
 ·exact h.elim
theorem aiP {k:D->D->R α} (h:good X Rl O (on2 k ds) σ H Q):∃x y,ds=[x,y]/\good X Rl O (k x y) σ H Q:=by
 rcases ds with _ |⟨d,_ |⟨e,_ |⟨_,_⟩⟩⟩
 ·exact h.elim
 ·exact h.elim
 ·exact⟨d,e,rfl,h⟩
 ·exact h.elim
theorem Nt {k:Int->R α} (h:good X Rl O (aaE k ds) σ H Q):∃i,ds=[.int i]/\good X Rl O (k i) σ H Q:=by
 rcases ds with _ |⟨d,_ |⟨_,_⟩⟩
 ·exact h.elim
 ·cases d with
  |int i=>exact⟨i,rfl,h⟩
  |_=>exact h.elim
 ·cases d <;> exact h.elim
theorem Nu {k:Int->Int->R α} (h:good X Rl O (aaF k ds) σ H Q):∃i j,ds=[.int i,.int j]/\good X Rl O (k i j) σ H Q:=by
 rcases ds with _ |⟨d,_ |⟨e,_ |⟨_,_⟩⟩⟩
 ·exact h.elim
 ·cases d <;> exact h.elim
 ·cases d with
  | int i=>
   cases e with
   |int j=>exact⟨i,j,rfl,h⟩
   |_=>exact h.elim
  |_=>exact h.elim
 ·cases d with
  |int i=>cases e <;> exact h.elim
  |_=>exact h.elim
theorem Zw {k l:List D->R α} (h:good X Rl O (afa k l ds) σ H Q):∃es,(ds=[.tup es]/\good X Rl O (k es) σ H Q)\/(ds=[.lst es]/\good X Rl O (l es) σ H Q):=by
 rcases ds with _ |⟨d,_ |⟨_,_⟩⟩
 ·exact h.elim
 ·cases d with
  |tup es=>exact⟨es,.inl ⟨rfl,h⟩⟩
  |lst es=>exact⟨es,.inr ⟨rfl,h⟩⟩
  |_=>exact h.elim
 ·cases d <;> exact h.elim
theorem Zx {l:List D->R α} (h:good X Rl O (afb l ds) σ H Q):∃es,ds=[.lst es]/\good X Rl O (l es) σ H Q:=by
 rcases ds with _ |⟨d,_ |⟨_,_⟩⟩
 ·exact h.elim
 ·cases d with
  |lst es=>exact⟨es,rfl,h⟩
  |_=>exact h.elim
 ·cases d <;> exact h.elim
noncomputable def mW:List D->R (List D):=aaE λ j=>if -(2 ^ 62)<=j/\j < 2 ^ 62 then .ok (upto 0 j.toNat) else .bad
theorem aiQ (j:Int):mW [.int j]=(if -(2 ^ 62)<=j/\j < 2 ^ 62 then .ok (upto 0 j.toNat) else .bad):=rfl
inductive R1v (K:PySem.W.Frag) (O:Addr->Prop) (H:Hp) (d:D) (xs:List V):Prop
 |mk (x:V) (e:xs=[x]) (h:Rep K O H d x)
inductive R2v (K:PySem.W.Frag) (O:Addr->Prop) (H:Hp) (d e:D) (xs:List V):Prop
 |mk (x y:V) (q:xs=[x,y]) (h:Rep K O H d x) (h':Rep K O H e y)
theorem aY.one {K:PySem.W.Frag} {O:Addr->Prop} {H:Hp} {d:D} {xs:List V} (r:aY K O H [d] xs):R1v K O H d xs:=by
 obtain⟨x,t,rfl,h1,h2⟩:=r.cons_inv
 rw[h2.nil_inv];exact⟨x,rfl,h1⟩
theorem aY.two {K:PySem.W.Frag} {O:Addr->Prop} {H:Hp} {d e:D} {xs:List V} (r:aY K O H [d,e] xs):R2v K O H d e xs:=by
 obtain⟨x,t,rfl,h1,h2⟩:=r.cons_inv
 obtain⟨y,rfl,h3⟩:=h2.one
 exact⟨x,y,rfl,h1,h3⟩
variable {a b:Expr} {fa:aq->R (List D)} {p pos:Pos}
set_option tactic.hygienic true in
theorem iM (hg:Gl X "range") (hm:X.mg "range" =none) (ha:DA X [a] fa) (hs:autoParam (starEach [a] X.env=[(false,eval a X.env)]) bD._auto_1):DI X tg (.Call (.Name "range" p) [a] [] pos) (λ ρ=>(fa ρ).bind mW):=by
 refine PI.imp (pi_range1 hg hm ha hs) λ σ H Q q=>?_
 obtain⟨ρ,O,j,q⟩:=q
 refine go j q λ ds xs H1 e1 s1 r1 j1 h1=>?_
 replace h1:=Nt h1
 obtain⟨i,rfl,h1⟩:=h1
 ·obtain⟨x,rfl,rx⟩:=r1.one
  split at h1
  ·rename_i hi
   exact⟨i,by rw[rx.int],hi.1,hi.2,fin h1 (YR.rng 0 i.toNat)⟩
  ·exact h1.elim
end
inductive DGp (X:Cx) (gt:D->aq->R aq) (v:V) (σ:St) (H:Hp) (Q:St->Hp->Prop):Prop
 |mk (ρ:aq) (O:Addr->Prop) (d:D) (ρ':aq) (j:In X O H ρ σ) (r:Rep X.K O H d v) (e:gt d ρ= .ok ρ') (q:∀σ',In X O H ρ' σ'->Q σ' H):DGp X gt v σ H Q
noncomputable def DG (X:Cx) (tg:Expr) (gt:D->aq->R aq):Prop:=PG X tg λ v σ H Q=>DGp X gt v σ H Q
inductive aiR (X:Cx) (gt:List D->aq->R aq) (vs:List V) (σ:St) (H:Hp) (Q:St->Hp->Prop):Prop
 |mk (ρ:aq) (O:Addr->Prop) (ds:List D) (ρ':aq) (j:In X O H ρ σ) (r:aY X.K O H ds vs) (e:gt ds ρ= .ok ρ') (q:∀σ',In X O H ρ' σ'->Q σ' H):aiR X gt vs σ H Q
noncomputable def DGs (X:Cx) (ts:List Expr) (gt:List D->aq->R aq):Prop:=PGs X ts λ vs σ H Q=>aiR X gt vs σ H Q
section
variable {X:Cx} {pos:Pos}
theorem In.set {O:Addr->Prop} {H:Hp} {ρ:aq} {σ:St} (j:In X O H ρ σ) {i:Nat} (hi:i < X.N.length) {d:D} {v:V} (r:Rep X.K O H d v):In X O H (ρ.set i (some (.val d))) (σ.set i (some v)):=by
 have h1:i < ρ.length:=by rw[j.pA];exact hi
 have h2:i < σ.length:=by rw[j.len];exact hi
 refine⟨⟨λ k e q=>?_,λ k l e e' u hkl qk ql ok ol sk sl=>?_⟩,j.al,by rw[List.length_set];exact j.len,by rw[List.length_set];exact j.pA⟩
 ·by_cases hk:k=i
  ·subst hk
   rw[z2a h1] at q
   (injection q with aD;injection aD with cZ;subst cZ)
   exact⟨v,z2a h2,r⟩
  ·rw[z1e (Ne.symm hk)] at q
   obtain⟨u,q1,q2⟩:=j.env.get k e q
   exact⟨u,by rw[z1e (Ne.symm hk)];exact q1,q2⟩
 ·have hk:k≠i:=λ z=>by subst z;rw[z2a h1] at qk;(injection qk with aD;injection aD with cZ;subst cZ);injection ok
  have hl:l≠i:=λ z=>by subst z;rw[z2a h1] at ql;(injection ql with aD;injection aD with cZ;subst cZ);injection ol
  rw[z1e (Ne.symm hk)] at qk sk
  rw[z1e (Ne.symm hl)] at ql sl
  exact j.env.sep k l e e' u hkl qk ql ok ol sk sl
noncomputable def aK (i:Nat) (d:D) (ρ:aq):R aq:= .ok (ρ.set i (some (.val d)))
theorem bJ (i:Nat) {x:Str} (hN:X.N.Nodup) (hi:autoParam (X.N[i]?=some x) bD._auto_1) (hx:autoParam (Loc X.env.scope x) vC._auto_1) (hf:autoParam (X.fn x=true\/X.env.scope.names.lookup x=some .local) vD._auto_1):DG X (.Name x pos) (aK i):=by
 intro pins s σ H v u Q I r h
 obtain⟨ρ,O,d,ρ',j,rd,e,q⟩:=h
 (injection e with aD;subst aD)
 exact pg_name hN hi hx hf pins s σ H v u Q I r (q _ (j.set (z1b hi).1 rd))
noncomputable def nilG:List D->aq->R aq
 |[],ρ=> .ok ρ
 |_,_=> .bad
noncomputable def bO (t:D->aq->R aq) (u:List D->aq->R aq):List D->aq->R aq
 |d::ds,ρ=>(t d ρ).bind λ ρ'=>u ds ρ'
 |_,_=> .bad
theorem pG:DGs X [] nilG:=by
 intro pins s σ H vs us Q I r h
 obtain⟨ρ,O,ds,ρ',j,rd,e,q⟩:=h
 cases ds with
 |nil=>(injection e with aD;subst aD);exact pgs_nil pins s σ H vs us Q I r ⟨rd.nil_inv,q _ j⟩
 |cons d ds=>injection e
theorem dj {e:Expr} {es:List Expr} {t:D->aq->R aq} {u:List D->aq->R aq} (h1:DG X e t) (h2:DGs X es u)
  (hs:autoParam ((assignEach (e::es) X.env).map (·.2)=assign e X.env::(assignEach es X.env).map (·.2)) bD._auto_1):DGs X (e::es) (bO t u):=by
 intro pins s σ H vs us Q I r h
 refine bc λ zQ=>?_
 obtain⟨ρ,O,ds,ρ',j,rd,e,q⟩:=h
 apply zQ;clear zQ
 refine bc λ zQ=>?_
 cases ds with
 |nil=>injection e
 | cons d ds=>
  apply zQ;clear zQ
  refine bc λ zQ=>?_
  obtain⟨x,xs,rfl,rx,rxs⟩:=rd.cons_inv
  apply zQ;clear zQ
  have e':(t d ρ).bind (λ ρ'=>u ds ρ')= .ok ρ':=e
  refine bc λ zQ=>?_
  cases q1:t d ρ with
  |bad=>rw[q1] at e';injection e'
  |err c=>rw[q1] at e';injection e'
  | ok ρ1=>
   apply zQ;clear zQ
   rw[q1] at e'
   refine pgs_cons h1 h2 hs pins s σ H _ us Q I r ⟨x,xs,rfl,ρ,O,d,ρ1,j,rx,q1,λ σ1 j1=>?_⟩
   exact⟨ρ1,O,ds,ρ',j1,rxs,e',q⟩
noncomputable def gQ (u:List D->aq->R aq):D->aq->R aq
 | .tup ds,ρ=>u ds ρ
 |_,_=> .bad
noncomputable def gR (n:Nat) (u:List D->aq->R aq):List D->aq->R aq:=λ ds ρ=>if ds.length=n then u ds ρ else .bad
theorem tE {es:List Expr} {k:Nat} {u:List D->aq->R aq} {n:Nat} (hc:X.calm=true) (h:DGs X es u)
  (hn:autoParam ((assignEach es X.env).length=n) bD._auto_1) (hst:autoParam ((assignEach es X.env).findIdx? (·.1)=none) bD._auto_1):DG X (.Tuple es k pos) (gQ (gR n u)):=by
 intro pins s σ H v w Q I r q
 obtain⟨ρ,O,d,ρ',j,rd,e,q⟩:=q
 cases d with
 | tup ds=>
  obtain⟨a,xs,rfl,hq,rs⟩:=rd.tup
  have e':(if ds.length=n then u ds ρ else .bad)= .ok ρ':=e
  by_cases hl:ds.length=n
  ·rw[if_pos hl] at e'
   exact pg_tup hc h hn hst pins s σ H _ w Q I r ⟨a,xs,rfl,hq,by rw[<-rs.length];exact hl,ρ,O,ds,ρ',j,rs,e',q⟩
  ·rw[if_neg hl] at e';injection e'
 |_=>injection e
end
noncomputable def nY (x:Str):List Str->Nat
 |[]=>0
 |y::r=>if x=y then 0 else nY x r+1
theorem aiS (x y:Str) (r:List Str):nY x (y::r)=if x=y then 0 else nY x r+1:=rfl
theorem Bo {x:Str}:∀{N:List Str},x∈N->N[nY x N]?=some x
 |[],h=>by simp at h
 | y ::r,h=>by
  rw[aiS]
  by_cases e:x=y
  ·rw[if_pos e,e];rfl
  ·rw[if_neg e]
   rcases List.mem_cons.mp h with z |z
   ·exact absurd z e
   ·simpa using Bo z
noncomputable def pull {α:Type} (N caps:List Str) (n:Nat) (l:List (Option α)):List (Option α):=List.replicate n none++caps.map λ x=>(l[nY x N]?).join
theorem Bp {α:Type} (N caps:List Str) (n:Nat) (l:List (Option α)):(pull N caps n l).length=n+caps.length:=by simp[pull]
theorem join_some {α:Type} {o:Option (Option α)} {a:α} (h:o.join=some a):o=some (some a):=by
 cases o with
 |none=>injection h
 |some o=>exact congrArg some h
theorem wu {α:Type} {N caps:List Str} {n:Nat} {l:List (Option α)} {i:Nat} {a:α} (h:(pull N caps n l)[i]?=some (some a)):∃j x,i=n+j/\caps[j]?=some x/\l[nY x N]?=some (some a):=by
 unfold pull at h
 by_cases hi:i < n
 ·rw[List.getElem?_append_left (by simpa using hi),List.getElem?_replicate,if_pos hi] at h
  (injection h with aD;injection aD)
 ·rw[List.getElem?_append_right (by simpa using hi),List.length_replicate,z2b] at h
  cases e:caps[i - n]? with
  |none=>rw[e] at h;injection h
  | some x=>
   rw[e] at h
   exact⟨i - n,x,by exact amh hi,e,join_some (Option.some.inj h)⟩
theorem Nv {α:Type} {N caps:List Str} {n:Nat} {l:List (Option α)} {j:Nat} {x:Str} (h:caps[j]?=some x):(pull N caps n l)[n+j]?=some (l[nY x N]?).join:=by
 unfold pull
 rw[List.getElem?_append_right (by simp),List.length_replicate,z2b,show n+j - n=j by exact aio,h]
 rfl
noncomputable def fY (sc:Scope):List Str:=(sc.names.filter λ x=>decide (x.2= .free)).map (·.1)
noncomputable def Jq (outer sc:Scope) (ts N:List Str):Bool:=
 decide (sc.kind= .function) && sc.names.all (λ x=>(!decide (x.2= .local)) || decide (sc.names.lookup x.1=some .local)) && sc.names.all (λ x=>(!decide (x.2= .cell)) || decide (sc.names.lookup x.1=some .cell)) &&
  (fY sc).all (λ x=>(decide (outer.names.lookup x=some .cell) || decide (outer.names.lookup x=some .free)) && decide (x∈N) && decide (sc.names.lookup x=some .free)) && decide (ts++fY sc).Nodup
structure HD (outer sc:Scope) (ts N:List Str):Prop where
 kind:sc.kind= .function
 loc:∀x∈sc.names,x.2= .local->sc.names.lookup x.1=some .local
 cel:∀x∈sc.names,x.2= .cell->sc.names.lookup x.1=some .cell
 out:∀x∈fY sc,outer.names.lookup x=some .cell\/outer.names.lookup x=some .free
 mem:∀x∈fY sc,x∈N
 Q0:∀x∈fY sc,sc.names.lookup x=some .free
 nd:(ts++fY sc).Nodup
theorem alC {outer sc:Scope} {ts N:List Str} (h:Jq outer sc ts N=true):HD outer sc ts N:=by
 unfold Jq at h
 simp only[Bool.and_eq_true,List.all_eq_true,decide_eq_true_eq,Bool.or_eq_true,Bool.not_eq_true',decide_eq_false_iff_not] at h
 obtain⟨⟨⟨⟨h1,h2⟩,h3⟩,h4⟩,h5⟩:=h
 exact⟨h1,λ x hx e=>(h2 x hx).resolve_left λ n=>n e,λ x hx e=>(h3 x hx).resolve_left λ n=>n e,λ x hx=>(h4 x hx).1.1,λ x hx=>(h4 x hx).1.2,λ x hx=>(h4 x hx).2,h5⟩
noncomputable def jK (cs:List (Str×Addr)):List (Str×NameKind)->List (Str×Addr)->List (Str×Addr)
 |[],acc=>acc
 |(n,k)::r,acc=>if k= .free then jK cs r ((n,(cs.lookup n).getD 0)::acc) else jK cs r acc
theorem aiT (cs:List (Str×Addr)) (acc:List (Str×Addr)):jK cs [] acc=acc:=rfl
theorem Ec (cs:List (Str×Addr)) (n:Str) (k:NameKind) (r:List (Str×NameKind)) (acc:List (Str×Addr)):jK cs ((n,k)::r) acc=if k= .free then jK cs r ((n,(cs.lookup n).getD 0)::acc) else jK cs r acc:=rfl
theorem aaG {scope:Scope} {env:PySem.Env} (h:∀x∈scope.names,x.2= .free->∃c,env.cells.lookup x.1=some c):closureFor scope env=pure (jK env.cells scope.names []):=by
 unfold closureFor
 have all:∀(l:List (Str×NameKind)) (acc:List (Str×Addr)),(∀x∈l,x.2= .free->∃c,env.cells.lookup x.1=some c)->
   (forIn l acc λ x r=>match x with |(name,kind)=>if (kind ==NameKind.free)=true then do let a <-cellOf env name;pure (ForInStep.yield ((name,a)::r)) else pure (ForInStep.yield r):Sem (List (Str×Addr)))=pure (jK env.cells l acc):=by
  intro l
  induction l with
  |nil=>intro acc Z;rfl
  | cons x r ih=>
   intro acc hx
   obtain⟨n,k⟩:=x
   rw[List.forIn_cons]
   rw[Ec]
   by_cases hk:k= .free
   ·obtain⟨c,hc⟩:=hx (n,k) List.mem_cons_self hk
    have hc:env.cells.lookup n=some c:=hc
    have e1:cellOf env n=pure c:=by unfold cellOf;rw[hc]
    subst hk
    simp only[e1,hc,Option.getD_some,beq_self_eq_true,if_true,pure_bind]
    exact ih _ λ y hy=>hx y (z2f _ hy)
   ·have e2:(k ==NameKind.free)=false:=by simpa using hk
    simp only[e2,Bool.false_eq_true,if_false,pure_bind,hk]
    exact ih _ λ y hy=>hx y (z2f _ hy)
 simpa using all scope.names [] h
theorem ou (cs:List (Str×Addr)):∀(l:List (Str×NameKind)) (acc:List (Str×Addr)),jK cs l acc=jK cs l []++acc
 |[],acc=>rfl
 | (n,k)::r,acc=>by
  rw[Ec,Ec]
  split
  ·rw[ou cs r (_::acc),ou cs r [_]];simp
  ·exact ou cs r acc
set_option tactic.hygienic true in
theorem wz (cs:List (Str×Addr)):∀(l:List (Str×NameKind)) {n:Str} {c:Addr},(n,c)∈jK cs l []->(n,NameKind.free)∈l/\c=(cs.lookup n).getD 0
 |[],_,_,h=>by simp[aiT] at h
 | (m, k)::r,n,c,h=>by
  rw[Ec] at h
  split at h
  ·rename_i hk
   rw[ou] at h
   rcases List.mem_append.mp h with h |h
   ·obtain⟨h1,h2⟩:=wz cs r h
    exact⟨z2f _ h1,h2⟩
   ·have e:=List.mem_singleton.mp h
    cases e
    subst hk
    exact⟨List.mem_cons_self,rfl⟩
  ·obtain⟨h1,h2⟩:=wz cs r h
   exact⟨z2f _ h1,h2⟩
set_option tactic.hygienic true in
theorem Jr (cs:List (Str×Addr)):∀(l:List (Str×NameKind)) {n:Str},(n,NameKind.free)∈l->((jK cs l []).lookup n).isSome=true
 |[],_,h=>by simp at h
 | (m, k)::r,n,h=>by
  rw[Ec]
  split
  ·rename_i hk
   rw[ou,List.lookup_append]
   rcases List.mem_cons.mp h with e |h
   ·cases e
    simp[List.lookup_cons]
   ·simp[Jr cs r h]
  ·rename_i hk
   rcases List.mem_cons.mp h with e |h
   ·cases e;exact absurd rfl hk
   ·exact Jr cs r h
theorem fM:∀(l:List (Str×NameKind)) (n:Nat) (acc:List (Str×Addr)),cellsFrom n l acc=cellsFrom n l []++acc
 |[],_,_=>rfl
 | (m,k)::r,n,acc=>by
  unfold cellsFrom
  split
  ·rw[fM r _ (_::acc),fM r _ [_]];simp
  ·exact fM r n acc
set_option tactic.hygienic true in
theorem lY:∀(l:List (Str×NameKind)) (n:Nat) {x:Str} {c:Addr},(x,c)∈cellsFrom n l []->(x,NameKind.cell)∈l/\n<=c
 |[],_,_,_,h=>by simp[cellsFrom] at h
 | (m, k)::r,n,x,c,h=>by
  unfold cellsFrom at h
  split at h
  ·rename_i hk
   rw[fM] at h
   rcases List.mem_append.mp h with h |h
   ·obtain⟨h1,h2⟩:=lY r _ h
    exact⟨z2f _ h1,by exact z0e h2⟩
   ·have e:=List.mem_singleton.mp h
    cases e
    have:k= .cell:=by simpa using hk
    subst this
    exact⟨List.mem_cons_self,z0g _⟩
  ·obtain⟨h1,h2⟩:=lY r _ h
   exact⟨z2f _ h1,h2⟩
section
variable {M:Model} {A:Around} {E:Value->Shared->Prop} {s:Shared}
theorem ac1 {scope:Scope} {globals:Addr} {cl:List (Str×Addr)} {qual:Str} {env:PySem.Env} {Q:PySem.Env->Shared->Prop}
  (hQ:Q (newEnv scope s.heap.objs.size globals (cellsFrom (s.heap.objs.size+1) scope.names cl) qual none .none (some env) builtinsNs) {s with heap:=pushCells (s.heap.push {cls:= .type "dict",data:= .dict #[]}) scope.names}):
  wpAny M A (newFunctionEnv scope globals cl [] qual none .none (some env)) Q E s:=by
 simp only[newFunctionEnv,Option.isSome_some,if_true]
 refine wpAny_bind (wpAny_alloc ?_)
 refine wpAny_bind (wpAny_layCells _ (λ name kind cells=>by cases hkc:kind ==NameKind.cell <;> simp[hkc]) _ _ _ _ ?_)
 rw[show ({s with heap:=s.heap.push {cls:= .type "dict",data:= .dict #[]}}:Shared).heap.objs.size=s.heap.objs.size+1 from Heap.size_push ..]
 exact wpAny_bind (wpAny_pure (wpAny_pure hQ))
end
noncomputable def je (scope:Scope) (env:PySem.Env) (C:Addr):PySem.Env:=
 {scope:=relabel scope env,locals:=C,globals:=env.globals,cells:=cellsFrom (C+1) scope.names (jK env.cells scope.names []),qual:=env.qual,func:=none,code:=env.code,frame:=env.frame,builtins:=env.builtins}
noncomputable def cV (X:Cx) (scope:Scope) (ts:List Str) (C:Addr) (s:Shared) (H:Hp) (ex:List Addr):Cx where
 prog:=X.prog
 w:=X.w
 K:=X.K
 mg:=X.mg
 base:=X.base
 A:=X.A
 N:=ts++fY scope
 s₀:=s
 H₀:=H
 env:=je scope X.env C
 outer:=X.stack
 stack:=X.stack
 ex:=ex
 fn:=λ x=>decide (scope.names.lookup x=some .cell)
 calm:=X.calm
 pn:=[]
 xe:=λ Z Z=>False
theorem qR {scope:Scope} {env:PySem.Env} {x:Str}:∀{names:List (Str×NameKind)},
  (names.map λ (n,k)=>if (k ==NameKind.free && env.scope.kind == .function && env.kindOf n ==some .cell) then (n,NameKind.cell) else (n,k)).lookup x =
   (names.lookup x).map λ k=>if (k ==NameKind.free && env.scope.kind == .function && env.kindOf x ==some .cell) then .cell else k
 |[]=>rfl
 | (n, k)::r=>by
  have ih:= @qR scope env x r
  rw[z1h]
  show List.lookup x ((if (k ==NameKind.free && env.scope.kind == .function && env.kindOf n ==some .cell)=true then (n,NameKind.cell) else (n,k))::_)=_
  cases hx:x ==n with
  | true=>
   have e:x=n:=by simpa using hx
   subst e
   by_cases hc:(k ==NameKind.free && env.scope.kind == .function && env.kindOf x ==some .cell)=true
   ·rw[if_pos hc]
    simp only[List.lookup_cons,beq_self_eq_true,Option.map_some,hc,if_true]
   ·rw[if_neg hc]
    simp only[List.lookup_cons,beq_self_eq_true,Option.map_some,hc,if_false] <;> rfl
  | false=>
   by_cases hc:(k ==NameKind.free && env.scope.kind == .function && env.kindOf n ==some .cell)=true
   ·rw[if_pos hc]
    simp only[List.lookup_cons,hx]
    exact ih
   ·rw[if_neg hc]
    simp only[List.lookup_cons,hx]
    exact ih
theorem wA {sc:Scope} {x:Str} (h:(x,NameKind.free)∈sc.names):x∈fY sc:=List.mem_map.mpr ⟨(x,.free),List.mem_filter.mpr ⟨h,by simp⟩,rfl⟩
theorem agT {sc:Scope} {x:Str} (h:x∈fY sc):(x,NameKind.free)∈sc.names:=by
 obtain⟨⟨n,k⟩,h1,h2⟩:=List.mem_map.mp h
 obtain⟨h3,h4⟩:=List.mem_filter.mp h1
 have h4:k=NameKind.free:=by simpa using h4
 subst h4
 have h2:n=x:=h2
 subst h2
 exact h3
section
variable {X:Cx} {scope:Scope} {ts:List Str} {C:Addr}
theorem mX (B:HD X.env.scope scope ts X.N) (has:∀x,(X.env.kindOf x=some .cell\/X.env.kindOf x=some .free)->∃c,X.env.cells.lookup x=some c) {x:Str} {c:Addr} (h:(je scope X.env C).cells.lookup x=some c):
  (scope.names.lookup x=some .cell/\@LE.le Nat _ (C+1) c)\/(x∈fY scope/\X.env.cells.lookup x=some c):=by
 have h:(cellsFrom (C+1) scope.names (jK X.env.cells scope.names [])).lookup x=some c:=h
 rw[fM,List.lookup_append] at h
 cases e:(cellsFrom (C+1) scope.names []).lookup x with
 | some c'=>
  rw[e] at h
  have e2:c'=c:=by simpa using h
  subst e2
  obtain⟨h1,h2⟩:=lY _ _ (PySem.mem_of_lookup e)
  exact .inl ⟨B.cel _ h1 rfl,h2⟩
 | none=>
  rw[e] at h
  have h:(jK X.env.cells scope.names []).lookup x=some c:=by simpa using h
  obtain⟨h1,h2⟩:=wz _ _ (PySem.mem_of_lookup h)
  have hx:=wA h1
  obtain⟨c',hc'⟩:=has x (B.out x hx)
  rw[hc'] at h2
  have h2:c=c':=h2
  subst h2
  exact .inr ⟨hx,hc'⟩
theorem Uk (B:HD X.env.scope scope ts X.N) {x:Str} {c:Addr} (hx:x∈fY scope) (hc:X.env.cells.lookup x=some c) (has:∀x,(X.env.kindOf x=some .cell\/X.env.kindOf x=some .free)->∃c,X.env.cells.lookup x=some c):(je scope X.env C).cells.lookup x=some c:=by
 have hs:=Jr X.env.cells scope.names (agT hx)
 obtain⟨c',e⟩:=Option.isSome_iff_exists.mp hs
 have hl:∃d,(je scope X.env C).cells.lookup x=some d:=by
  show ∃d,(cellsFrom (C+1) scope.names (jK X.env.cells scope.names [])).lookup x=some d
  rw[fM,List.lookup_append,e]
  cases (cellsFrom (C+1) scope.names []).lookup x with
  |none=>exact⟨c',rfl⟩
  |some d=>exact⟨d,rfl⟩
 obtain⟨d,hd⟩:=hl
 rcases mX B has hd with⟨h1,_⟩ |⟨_,h2⟩
 ·rw[B.Q0 x hx] at h1;(injection h1 with aD;injection aD)
 ·rw[hc] at h2;(injection h2 with aD;subst aD);exact hd
theorem afc (B:HD X.env.scope scope ts X.N) {x:Str} (hx:x∈fY scope):(je scope X.env C).kindOf x=some .cell\/(je scope X.env C).kindOf x=some .free:=by
 show (relabel scope X.env).names.lookup x=some .cell\/(relabel scope X.env).names.lookup x=some .free
 have e:(relabel scope X.env).names.lookup x=(scope.names.lookup x).map λ k=>if (k ==NameKind.free && X.env.scope.kind == .function && X.env.kindOf x ==some .cell) then .cell else k:=qR (scope:=scope)
 rw[e,B.Q0 x hx]
 simp only[Option.map_some]
 split
 ·exact .inl rfl
 ·exact .inr rfl
end
noncomputable def Q5 {α:Type}:R α->R α
 | .err _=> .bad
 | .ok a=> .ok a
 | .bad=> .bad
@[simp] theorem Ku {α:Type} (a:α):Q5 (R.ok a)= .ok a:=rfl
noncomputable def mL (k:D->R (Option D)):List D->R (List D)
 |[]=> .ok []
 |x::xs=>(Q5 (k x)).bind λ o=>(mL k xs).bind λ ds=> .ok (o.toList++ds)
theorem ac2 (k:D->R (Option D)) (x:D) (xs:List D):mL k (x::xs)=(Q5 (k x)).bind λ o=>(mL k xs).bind λ ds=> .ok (o.toList++ds):=rfl
noncomputable def pX (gt:D->aq->R aq) (ft:aq->R Bool) (fe:aq->R D) (ρ:aq) (x:D):R (Option D):=
 (gt x ρ).bind λ ρ1=>(ft ρ1).bind λ b=>if b=true then (fe ρ1).bind λ d=> .ok (some d) else .ok none
noncomputable def Bq:Option Ent->Option Ent
 |some (.val d)=>some (.val d)
 |_=>none
noncomputable def Br (n:Nat) (caps:List Nat) (ρ:aq):aq:=List.replicate n none++caps.map λ k=>((ρ.map Bq)[k]?).join
noncomputable def bR (n:Nat) (caps:List Nat) (fi:aq->R (List D)) (gt:D->aq->R aq) (ft:aq->R Bool) (fe:aq->R D):aq->R D:=
 λ ρ=>(fi ρ).bind λ xs=>(mL (pX gt ft fe (Br n caps ρ)) xs).bind (cap .lst)
noncomputable def tH (n:Nat) (gt:D->aq->R aq):Prop:=∀d ρ ρ',gt d ρ= .ok ρ'->∀i,n<=i->ρ'[i]?=ρ[i]?
noncomputable def HF (n:Nat) (gt:List D->aq->R aq):Prop:=∀d ρ ρ',gt d ρ= .ok ρ'->∀i,n<=i->ρ'[i]?=ρ[i]?
theorem bx {n i:Nat} (h:i < n):tH n (aK i):=λ d ρ ρ' e j hj=>by
 (injection e with aD;subst aD)
 rw[z1e (by exact ami h hj)]
theorem lE {n:Nat}:HF n nilG:=λ d ρ ρ' e j hj=>by
 cases d with
 |nil=>(injection e with aD;subst aD);rfl
 |cons _ _=>injection e
theorem cF {n:Nat} {t:D->aq->R aq} {u:List D->aq->R aq} (h1:tH n t) (h2:HF n u):HF n (bO t u):=λ d ρ ρ' e j hj=>by
 cases d with
 |nil=>injection e
 | cons d ds=>
  have e':(t d ρ).bind (λ ρ'=>u ds ρ')= .ok ρ':=e
  cases q:t d ρ with
  |ok ρ1=>rw[q] at e';rw[h2 ds ρ1 ρ' e' j hj,h1 d ρ ρ1 q j hj]
  |err c=>rw[q] at e';injection e'
  |bad=>rw[q] at e';injection e'
theorem lF {n m:Nat} {u:List D->aq->R aq} (h:HF n u):tH n (gQ (gR m u)):=λ d ρ ρ' e j hj=>by
 cases d with
 | tup ds=>
  have e':(if ds.length=m then u ds ρ else .bad)= .ok ρ':=e
  by_cases hl:ds.length=m
  ·rw[if_pos hl] at e';exact h ds ρ ρ' e' j hj
  ·rw[if_neg hl] at e';injection e'
 |_=>injection e
noncomputable def Ul (Y:Cx) (ifs:List Expr) (ft:aq->R Bool):Prop:=∀(pins:List (Addr×Obj)) (s:Shared) (σ:St) (H:Hp) (Q:Bool->Hp->Prop),Inv Y pins σ H s->tG Y rB ft σ H Q->
 wpAny (model Y.prog Y.w) Y.A (forIn ifs true λ c r=>if r=true then do let ok <-isTrue c Y.env (eval c Y.env);pure (ForInStep.yield ok) else pure (ForInStep.yield r)) (TP Y pins σ Q) Y.xe s
theorem cB {Y:Cx}:Ul Y [] (λ Z=> .ok true):=λ pins s σ H Q I h=>by
 obtain⟨ρ,O,j,h⟩:=h
 exact wpAny_tests_nil ⟨H,I,fin h rfl⟩
theorem Nx {Y:Cx} {c:Expr} {p:aq->R Bool} (hc:DT Y c p):Ul Y [c] p:=λ pins s σ H Q I h=>wpAny_tests_one (hc pins s σ H Q I h)
theorem ac3 {k:D->R (Option D)} {x:D} {xs:List D} {all:List D} (h:mL k (x::xs)= .ok all):∃o rest,k x= .ok o/\mL k xs= .ok rest/\all=o.toList++rest:=by
 have h:(Q5 (k x)).bind (λ o=>(mL k xs).bind λ ds=> .ok (o.toList++ds))= .ok all:=h
 cases e:k x with
 |bad=>rw[e] at h;injection h
 |err c=>rw[e] at h;injection h
 | ok o=>
  rw[e] at h
  cases e2:mL k xs with
  |bad=>rw[e2] at h;injection h
  |err c=>rw[e2] at h;injection h
  | ok rest=>
   rw[e2] at h
   (injection h with aD;subst aD)
   exact⟨o,rest,rfl,rfl,rfl⟩
theorem Kv {k:D->R (Option D)}:∀{xs:List D} {c:Str},mL k xs≠.err c
 |[],c=>λ h=>by injection h
 | x ::xs,c=>λ h=>by
  have h:(Q5 (k x)).bind (λ o=>(mL k xs).bind λ ds=> .ok (o.toList++ds))= .err c:=h
  cases e:k x with
  |bad=>rw[e] at h;injection h
  |err c=>rw[e] at h;injection h
  | ok o=>
   rw[e] at h
   cases e2:mL k xs with
   |bad=>rw[e2] at h;injection h
   |err c'=>exact Kv e2
   |ok rest=>rw[e2] at h;injection h
section
variable {X:Cx}
theorem aaH {o:Option Ent} {e:Ent} (h:Bq o=some e):o=some e/\e.Zv=true:=by
 cases o with
 |none=>injection h
 | some e'=>
  cases e' with
  |val d=>(injection h with aD;subst aD);exact⟨rfl,rfl⟩
  |lst _=>injection h
  |DY _=>injection h
  |obj _=>injection h
theorem Bs {ρ:aq} {i:Nat} {e:Ent} (h:(ρ.map Bq)[i]?=some (some e)):ρ[i]?=some (some e)/\e.Zv=true:=by
 rw[z2b] at h
 cases q:ρ[i]? with
 |none=>rw[q] at h;injection h
 | some o=>
  rw[q] at h
  obtain⟨h1,h2⟩:=aaH (Option.some.inj h)
  rw[h1];exact⟨rfl,h2⟩
theorem In.vals {O:Addr->Prop} {H:Hp} {ρ:aq} {σ:St} (j:In X O H ρ σ):In X O H (ρ.map Bq) σ:=
 ⟨⟨λ i e h=>j.env.get i e (Bs h).1,λ i k e e' v hik hi hk=>j.env.sep i k e e' v hik (Bs hi).1 (Bs hk).1⟩,j.al,j.len,by rw[z1g];exact j.pA⟩
theorem aaI {N caps:List Str} {ks:List Nat} {n:Nat} {ρ:aq} (h:caps.map (λ x=>nY x N)=ks):pull N caps n (ρ.map Bq)=Br n ks ρ:=by
 unfold pull Br
 rw[<-h,List.map_map]
 rfl
theorem agU {scope:Scope} {ts:List Str} {pins:List (Addr×Obj)} {σ:St} {H:Hp} {s:Shared} {fp:List Addr} (I:Inv X pins σ H s) (B:HD X.env.scope scope ts X.N)
  (hf:∀b∈fp,FpOk X pins H b) (ho:∀b∈fp,b < s.heap.objs.size) {h4:Heap} {C:Nat} (hC:C=s.heap.objs.size+1)
  (e4:h4=pushCells ((s.heap.push {cls:= .type "list",dict:=none,data:= .seq ([]:List Value).toArray}).push {cls:= .type "dict",data:= .dict #[]}) scope.names):
  Inv (cV X scope ts C s H fp) [] (pull X.N (fY scope) ts.length σ) (upd H s.heap.objs.size (.lst [])) {s with heap:=h4}:=by
 have hD:H s.heap.objs.size=none:=I.hok.fresh (z0g _)
 have agI:∀b o,(s.heap.push {cls:= .type "list",dict:=none,data:= .seq ([]:List Value).toArray}).get? b=some o->h4.get? b=some o:=λ b o e=>by
  rw[e4];exact pushCells_keeps _ _ b o (z1a _ e)
 have keep:∀b o,s.heap.get? b=some o->h4.get? b=some o:=λ b o e=>agI b o (z1a _ e)
 have sz3:(s.heap.push {cls:= .type "list",dict:=none,data:= .seq ([]:List Value).toArray}).objs.size=s.heap.objs.size+1:=Heap.size_push ..
 have hns:h4.Ns C λ Z=>none:=by
  rw[e4,hC,<-sz3]
  exact (Heap.Ns.new _ (.type "dict")).keeps (pushCells_keeps _ _)
 have ok:=cellsFrom_ok scope.names ((s.heap.push {cls:= .type "list",dict:=none,data:= .seq ([]:List Value).toArray}).push {cls:= .type "dict",data:= .dict #[]}) (C+1) [] ⟨λ Z Z hm=>(nomatch hm),List.Pairwise.nil⟩ (by rw[Heap.size_push,sz3,hC];exact z0g _)
 rw[Heap.size_push,sz3,<-hC,<-e4] at ok
 have agV:∀x c,(je scope X.env C).cells.lookup x=some c->scope.names.lookup x=some .cell->h4.IsCell c none:=λ x c h hk=>by
  have h:(cellsFrom (C+1) scope.names (jK X.env.cells scope.names [])).lookup x=some c:=h
  rw[fM,List.lookup_append] at h
  refine bc λ zQ=>?_
  cases e:(cellsFrom (C+1) scope.names []).lookup x with
  | some c'=>
   apply zQ;clear zQ
   rw[e] at h
   have e2:c'=c:=by simpa using h
   subst e2
   exact (ok.empty x c' (PySem.mem_of_lookup e)).1
  | none=>
   apply zQ;clear zQ
   rw[e] at h
   have h:(jK X.env.cells scope.names []).lookup x=some c:=by simpa using h
   have:=B.Q0 x (wA (wz _ _ (PySem.mem_of_lookup h)).1)
   rw[hk] at this;(injection this with aD;injection aD)
 have aaJ:∀x (c:Nat),X.env.cells.lookup x=some c->c < s.heap.objs.size:=λ x c e=>by
  refine bc λ zQ=>?_
  obtain⟨v,q⟩:=I.cell x c e
  apply zQ;clear zQ
  exact q.lt
 have aiU:∀x c,(je scope X.env C).cells.lookup x=some c->∃v,h4.IsCell c v:=λ x c h=>by
  refine bc λ zQ=>?_
  rcases mX B I.ok.has h with⟨h1,_⟩ |⟨_,h2⟩
  ·apply zQ;clear zQ
   exact⟨_,agV x c h h1⟩
  ·apply zQ;clear zQ
   refine bc λ zQ=>?_
   obtain⟨v,q⟩:=I.cell x c h2
   apply zQ;clear zQ
   exact⟨v,q.keeps keep⟩
 refine⟨⟨I.ok.mod,B.kind,I.ok.glob,I.ok.blt,by show @LE.le Nat _ s.heap.objs.size C;exact aip hC,?inj,?has,?cab,I.ok.hd,I.ok.frames,.inl rfl,?exf,I.bs,z0b I.ok.bsz I.sz,?noex,?exfs,I.stack,I.stkFree⟩,
  rfl,I.bare,Un.laid keep (z0g _) hD,⟨_,hns,?loc⟩,aiU,?free,?freeC,λ p hp=>absurd (show p∈([]:List (Addr×Obj)) from hp) (by simp),I.hok.laid keep (z0g _) ?new,?len⟩
 case inj=>
  intro x y c h1 h2
  have h1:(je scope X.env C).cells.lookup x=some c:=h1
  have h2:(je scope X.env C).cells.lookup y=some c:=h2
  rcases mX B I.ok.has h1 with⟨a1,a2⟩ |⟨a1,a2⟩ <;> rcases mX B I.ok.has h2 with⟨b1,b2⟩ |⟨b1,b2⟩
  ·-- both its own
   have look:∀z,(je scope X.env C).cells.lookup z=some c->scope.names.lookup z=some .cell->(z,c)∈cellsFrom (C+1) scope.names []:=λ z h hk=>by
    have h:(cellsFrom (C+1) scope.names (jK X.env.cells scope.names [])).lookup z=some c:=h
    rw[fM,List.lookup_append] at h
    refine bc λ zQ=>?_
    cases e:(cellsFrom (C+1) scope.names []).lookup z with
    | some c'=>
     apply zQ;clear zQ
     rw[e] at h
     have e2:c'=c:=by simpa using h
     subst e2
     exact PySem.mem_of_lookup e
    | none=>
     apply zQ;clear zQ
     rw[e] at h
     have h:(jK X.env.cells scope.names []).lookup z=some c:=by simpa using h
     have:=B.Q0 z (wA (wz _ _ (PySem.mem_of_lookup h)).1)
     rw[hk] at this;(injection this with aD;injection aD)
   exact name_of_addr ok.apart (look x h1 a1) (look y h2 b1)
  ·have:=aaJ y c b2;exact (aiq a2 hC this).elim
  ·have:=aaJ x c a2;exact (aiq b2 hC this).elim
  ·exact I.ok.inj x y c a2 b2
 case has =>
  intro x hx
  have hx:(relabel scope X.env).names.lookup x=some .cell\/(relabel scope X.env).names.lookup x=some .free:=hx
  have hx:(scope.names.map λ (n,k)=>if (k ==NameKind.free && X.env.scope.kind == .function && X.env.kindOf n ==some .cell) then (n,NameKind.cell) else (n,k)).lookup x=some .cell\/(scope.names.map λ (n,k)=>if (k ==NameKind.free && X.env.scope.kind == .function && X.env.kindOf n ==some .cell) then (n,NameKind.cell) else (n,k)).lookup x=some .free:=hx
  rw[qR (scope:=scope)] at hx
  refine bc λ zQ=>?_
  cases e:scope.names.lookup x with
  |none=>rw[e] at hx;rcases hx with z |z <;> injection z
  | some k=>
   apply zQ;clear zQ
   rw[e] at hx
   by_cases hk:k= .free
   ·subst hk
    have hm:=wA (PySem.mem_of_lookup e)
    refine bc λ zQ=>?_
    obtain⟨c,hc⟩:=I.ok.has x (B.out x hm)
    apply zQ;clear zQ
    exact⟨c,Uk B hm hc I.ok.has⟩
   ·have hk':(k ==NameKind.free)=false:=by simpa using hk
    simp only[Option.map_some,hk',Bool.false_and,Bool.false_eq_true,if_false] at hx
    have hc:k= .cell:=by
     refine bc λ zQ=>?_
     rcases hx with z |z
     ·apply zQ;clear zQ
      exact Option.some.inj z
     ·apply zQ;clear zQ
      exact absurd (Option.some.inj z) hk
    subst hc
    have q:=PySem.W.cellsFrom_some scope.names (C+1) (jK X.env.cells scope.names []) (.inl e)
    exact Option.isSome_iff_exists.mp q
 case cab=>
  intro x c hfn h
  have h:(je scope X.env C).cells.lookup x=some c:=h
  have hfn:scope.names.lookup x=some .cell:=of_decide_eq_true hfn
  refine bc λ zQ=>?_
  rcases mX B I.ok.has h with⟨_,a2⟩ |⟨a1,_⟩
  ·apply zQ;clear zQ
   show @LE.le Nat _ s.heap.objs.size c;exact air a2 hC
  ·apply zQ;clear zQ
   rw[B.Q0 x a1] at hfn;(injection hfn with aD;injection aD)
 case exf=>
  intro b hb
  have hb:b∈fp:=hb
  have hl: @LT.lt Nat _ b s.heap.objs.size:=ho b hb
  refine⟨by show @Ne Nat b C;exact ais hl hC,λ x c h=>?_⟩
  refine bc λ zQ=>?_
  rcases mX B I.ok.has h with⟨_,a2⟩ |⟨_,a2⟩
  ·apply zQ;clear zQ
   show @Ne Nat c b;exact ait a2 hl hC
  ·apply zQ;clear zQ
   exact (hf b hb).2.2.2.2.1 x c a2
 case noex=>
  intro b o e hb
  have hb:b∈fp:=hb
  refine bc λ zQ=>?_
  rcases (hf b hb).2.2.2.1 with z |z
  ·apply zQ;clear zQ
   exact I.ok.noex b o e z
  ·apply zQ;clear zQ
   exact absurd (z0d (z2c e) (z0b I.ok.bsz z)) (Nat.lt_irrefl _)
 case exfs=>
  intro b hb hz
  have hb:b∈fp:=hb
  have hz:b∈frs X.stack:=hz
  refine bc λ zQ=>?_
  rcases List.mem_cons.mp (I.stkSub b hz) with z |z
  ·apply zQ;clear zQ
   exact (hf b hb).2.1 z
  ·apply zQ;clear zQ
   exact (hf b hb).2.2.1 z
 case loc=>
  intro i x v h1 h2 h3
  have h1:(ts++fY scope)[i]?=some x:=h1
  refine bc λ zQ=>?_
  obtain⟨k,y,e1,e2,e3⟩:=wu h2
  apply zQ;clear zQ
  have hy:x=y:=by
   rw[e1,List.getElem?_append_right (by exact Nat.le_add_right _ _),show ts.length+k - ts.length=k by exact aio,e2] at h1
   exact (Option.some.inj h1).symm
  subst hy
  have hm:x∈fY scope:=List.mem_of_getElem? e2
  refine bc λ zQ=>?_
  obtain⟨m,_,hl⟩:=I.loc
  have vis:Vis X.env.scope x:=by
   refine bc λ zQ=>?_
   rcases B.out x hm with z |z
   ·apply zQ;clear zQ
    exact .inr (.inl z)
   ·apply zQ;clear zQ
    exact .inr (.inr z)
  obtain⟨u,ru,lk⟩:=hl (nY x X.N) x v (Bo (B.mem x hm)) e3 vis
  apply zQ;clear zQ
  refine⟨u,ru,.inr ⟨afc B hm,?_⟩⟩
  refine bc λ zQ=>?_
  rcases lk with⟨z,_⟩ |⟨_,c,hc,q⟩
  ·apply zQ;clear zQ
   have z:X.env.scope.names.lookup x=some .local:=z
   rcases B.out x hm with z' |z' <;> rw[z] at z' <;> (injection z' with aD;injection aD)
  ·apply zQ;clear zQ
   exact⟨c,Uk B hm hc I.ok.has,q.keeps keep⟩
 case free=>
  show upd H s.heap.objs.size (.lst []) C=none
  rw[upd_ne (show @Ne Nat C s.heap.objs.size by exact amj hC)]
  exact I.hok.fresh (show @LE.le Nat _ s.heap.objs.size C by exact aip hC)
 case freeC=>
  intro x c h
  refine bc λ zQ=>?_
  rcases mX B I.ok.has h with⟨_,a2⟩ |⟨_,a2⟩
  ·apply zQ;clear zQ
   rw[upd_ne (show @Ne Nat c s.heap.objs.size by exact amk a2 hC)]
   exact I.hok.fresh (show @LE.le Nat _ s.heap.objs.size c by exact air a2 hC)
  ·apply zQ;clear zQ
   have:=aaJ x c a2
   rw[upd_ne (show @Ne Nat c s.heap.objs.size by exact Nat.ne_of_lt this)]
   exact I.freeC x c a2
 case new=>
  exact⟨Nat.zero_le _,[],0,.nil,agI _ _ (z1f _ rfl)⟩
 case len=>
  show (pull X.N (fY scope) ts.length σ).length=(ts++fY scope).length
  rw[Bp,z1d]
theorem aiV {scope:Scope} {ts:List Str} {σ:St} {ρ:aq} {H:Hp} {s:Shared} {fp:List Addr} {O:Addr->Prop} {C:Addr} (B:HD X.env.scope scope ts X.N) (j:In X O H ρ σ):In (cV X scope ts C s H fp) O H (pull X.N (fY scope) ts.length ρ) (pull X.N (fY scope) ts.length σ):=by
 refine⟨⟨λ i e h=>?_,λ i k e e' v hik hi hk oi ok si sk=>?_⟩,j.al,?_,?_⟩
 ·obtain⟨m,x,rfl,e1,e2⟩:=wu h
  obtain⟨v,e3,r⟩:=j.env.get _ e e2
  exact⟨v,by rw[Nv e1,e3];rfl,r⟩
 ·obtain⟨m,x,rfl,e1,e2⟩:=wu hi
  obtain⟨m',x',rfl,e1',e2'⟩:=wu hk
  have hx:x≠x':=λ z=>by
   subst z
   have nd:=(List.nodup_append.mp B.nd).2.1
   exact hik (by rw[nodup_ix nd e1 e1'])
  have hm:=B.mem x (List.mem_of_getElem? e1)
  have hm':=B.mem x' (List.mem_of_getElem? e1')
  have hne:nY x X.N≠nY x' X.N:=λ z=>by
   have q1:=Bo hm
   have q2:=Bo hm'
   rw[z,q2] at q1
   exact hx (Option.some.inj q1).symm
  rw[Nv e1] at si
  rw[Nv e1'] at sk
  exact j.env.sep _ _ e e' v hne e2 e2' oi ok (join_some (Option.some.inj si)) (join_some (Option.some.inj sk))
 ·show (pull X.N (fY scope) ts.length σ).length=(ts++fY scope).length
  rw[Bp,z1d]
 ·show (pull X.N (fY scope) ts.length ρ).length=(ts++fY scope).length
  rw[Bp,z1d]
end
theorem j5:1000000 < sizeLine:=by rw[sizeLine_eq];decide
section
variable {X:Cx}
theorem In.back {Y:Cx} {O:Addr->Prop} {H:Hp} {ρ ρ1:aq} {σ:St} {n:Nat} (j:In Y O H ρ1 σ) (h0:∀i,i < n->ρ[i]?=some none) (h1:∀i,n<=i->ρ1[i]?=ρ[i]?) (hl:ρ.length=Y.N.length):In Y O H ρ σ:=by
 have sub:∀(i:Nat) e,ρ[i]?=some (some e)->ρ1[i]?=some (some e):=λ i e h=>by
  by_cases hi:i < n
  ·rw[h0 i hi] at h;(injection h with aD;injection aD)
  ·rw[h1 i (by exact Nat.not_lt.mp hi)];exact h
 exact⟨⟨λ i e h=>j.env.get i e (sub i e h),λ i k e e' v hik hi hk=>j.env.sep i k e e' v hik (sub i e hi) (sub k e' hk)⟩,j.al,j.len,hl⟩
theorem ac4 {α:Type} {N caps:List Str} {n:Nat} {l:List (Option α)} {i:Nat} (h:i < n):(pull N caps n l)[i]?=some none:=by
 unfold pull
 rw[List.getElem?_append_left (by simpa using h),List.getElem?_replicate,if_pos h]
theorem In.go {Y:Cx} {O O':Addr->Prop} {H H':Hp} {ρ:aq} {σ:St} (j:In Y O H ρ σ) (hv:∀(i:Nat) e,ρ[i]?=some (some e)->e.Zv=true) (r:iK Y.K O H O' H') (al:∀a,O' a->∃o,H' a=some o):In Y O' H' ρ σ:=by
 refine⟨⟨λ i e h=>?_,λ i k e e' v Z hi Z oi=>?_⟩,al,j.len,j.pA⟩
 ·obtain⟨v,h1,h2⟩:=j.env.get i e h
  refine⟨v,h1,?_⟩
  cases e with
  |val d=>exact Rep.go r h2
  |lst _=>cases hv i _ h
  |DY _=>cases hv i _ h
  |obj _=>cases hv i _ h
 ·rw[agS (hv i e hi)] at oi;injection oi
theorem Q6 {N caps:List Str} {n:Nat} {ρ:aq}:∀(i:Nat) e,(pull N caps n (ρ.map Bq))[i]?=some (some e)->e.Zv=true:=λ i e h=>by
 obtain⟨_,_,_,_,q⟩:=wu h
 exact (Bs q).2
end
set_option genInjectivity true in
inductive So where
 |bad |nx (ρ:aq) |rt (d:D) |bk (ρ:aq) |ct (ρ:aq) |ex (c:Str) (ρ:aq)
structure At (X:Cx) (H0:Hp) (O0 O:Addr->Prop) (H:Hp) (ρ:aq) (σ:St):Prop where
 same:Same H0 H
 iW:iK X.K O0 H0 O H
 sub:∀a,O0 a->O a
 inn:In X O H ρ σ
 mine:∀(i:Nat) e a,ρ[i]?=some (some e)->e.own=true->σ[i]?=some (some (.ref a))->H0 a=none/\¬O0 a
noncomputable def tK (X:Cx) (H0:Hp) (O0 O:Addr->Prop) (H:Hp) (E:Ends) (o:So):Prop:=match o with
 | .nx ρ'=>∀σ' H' O',At X H0 O0 O' H' ρ' σ'->iK X.K O H O' H'->E.nx σ' H'
 | .bk ρ'=>∀σ' H' O',At X H0 O0 O' H' ρ' σ'->iK X.K O H O' H'->E.bk σ' H'
 | .ct ρ'=>∀σ' H' O',At X H0 O0 O' H' ρ' σ'->iK X.K O H O' H'->E.ct σ' H'
 | .rt d=>∀v H',Same H0 H'->Rep X.K O0 H' d v->E.rt v H'
 | .ex c ρ'=>∀σ' H' O',At X H0 O0 O' H' ρ' σ'->Uh X c σ' H'
 | .bad=>False
theorem tK.go {X:Cx} {H0 H H1:Hp} {O0 O O1:Addr->Prop} {E:Ends} {o:So} (h:tK X H0 O0 O H E o) (r:iK X.K O H O1 H1):tK X H0 O0 O1 H1 E o:=by
 cases o with
 |bad=>exact h
 |rt d=>exact h
 |bk ρ2=>exact λ σ2 H2 O2 j2 r2=>h σ2 H2 O2 j2 (r.trans r2)
 |ct ρ2=>exact λ σ2 H2 O2 j2 r2=>h σ2 H2 O2 j2 (r.trans r2)
 |nx ρ2=>exact λ σ2 H2 O2 j2 r2=>h σ2 H2 O2 j2 (r.trans r2)
 |ex c ρ2=>exact h
noncomputable def tS (X:Cx) (g:aq->So):TS:=λ E σ H=>∃H0 O0 O ρ,At X H0 O0 O H ρ σ/\tK X H0 O0 O H E (g ρ)
noncomputable def DS (X:Cx) (st:Stmt) (g:aq->So):Prop:=PS X st (tS X g)
noncomputable def cX (X:Cx) (st:List Stmt) (g:aq->So):Prop:=PSs X st (tS X g)
theorem PS.imp {X:Cx} {e:Stmt} {t t':TS} (h:PS X e t) (w:∀σ H Q,t' Q σ H->t Q σ H):PS X e t':=λ pins s σ H Q I q=>h pins s σ H Q I (w σ H Q q)
theorem PSs.imp {X:Cx} {e:List Stmt} {t t':TS} (h:PSs X e t) (w:∀σ H Q,t' Q σ H->t Q σ H):PSs X e t':=λ pins s σ H Q I q=>h pins s σ H Q I (w σ H Q q)
section
variable {X:Cx} {H0 H H1:Hp} {O0 O:Addr->Prop} {ρ:aq} {σ:St}
theorem At.grow (j:At X H0 O0 O H ρ σ) (s:Same H H1):At X H0 O0 O H1 ρ σ:=⟨j.same.trans s,j.iW.trans (Same.iW s),j.sub,j.inn.same s,j.mine⟩
theorem At.set (j:At X H0 O0 O H ρ σ) {i:Nat} (hi:i < X.N.length) {d:D} {v:V} (r:Rep X.K O H d v):At X H0 O0 O H (ρ.set i (some (.val d))) (σ.set i (some v)):=by
 refine⟨j.same,j.iW,j.sub,j.inn.set hi r,λ k e a h ho hs=>?_⟩
 have h1:i < ρ.length:=by rw[j.inn.pA];exact hi
 by_cases hk:k=i
 ·subst hk
  rw[z2a h1] at h
  (injection h with aD;injection aD with cZ;subst cZ);injection ho
 ·rw[z1e (Ne.symm hk)] at h hs
  exact j.mine k e a h ho hs
noncomputable def aaK:Option Ent->Option Ent
 |some (.lst ds)=>some (.val (.lst ds))
 |o=>o
noncomputable def dU (ρ:aq):aq:=ρ.map aaK
noncomputable def Zy (ρ:aq) (σ:St) (O:Addr->Prop):Addr->Prop:=λ a=>O a/\∀(i:Nat) ds,ρ[i]?=some (some (.lst ds))->σ[i]?≠some (some (.ref a))
theorem Um {i:Nat} {e:Ent} (h:(dU ρ)[i]?=some (some e)):(ρ[i]?=some (some e)/\∀ds,e≠.lst ds)\/∃ds,ρ[i]?=some (some (.lst ds))/\e= .val (.lst ds):=by
 unfold dU at h
 rw[z2b] at h
 cases q:ρ[i]? with
 |none=>rw[q] at h;injection h
 | some o=>
  rw[q] at h
  have h:aaK o=some e:=Option.some.inj h
  cases o with
  |none=>injection h
  | some e'=>
   cases e' with
   |val d=>(injection h with aD;subst aD);exact .inl ⟨rfl,λ Z z=>by injection z⟩
   |lst ds=>(injection h with aD;subst aD);exact .inr ⟨ds,rfl,rfl⟩
   |DY kvs=>(injection h with aD;subst aD);exact .inl ⟨rfl,λ Z z=>by injection z⟩
   |obj t=>(injection h with aD;subst aD);exact .inl ⟨rfl,λ Z z=>by injection z⟩
theorem In.dU (j:In X O H ρ σ):In X (Zy ρ σ O) H (Pu.dU ρ) σ:=by
 refine⟨⟨λ i e h=>?_,λ i k e e' v hik hi hk oi ok si sk=>?_⟩,λ a z=>j.al a z.1,j.len,by unfold Pu.dU;rw[z1g];exact j.pA⟩
 ·rcases Um h with⟨h1,h2⟩ |⟨ds,h1,rfl⟩
  ·obtain⟨v,h3,h4⟩:=j.env.get i e h1
   refine⟨v,h3,?_⟩
   cases e with
   |val d=>exact Rep.fewer (λ a z=>z.1) h4
   |lst ds=>exact absurd rfl (h2 ds)
   |obj t=>exact h4
   | DY kvs=>
    obtain⟨a,ys,e1,o1,e2,k1,r1⟩:=h4
    refine⟨a,ys,e1,⟨o1,λ k ds hk hs=>?_⟩,e2,k1,r1.fewer λ a z=>z.1⟩
    by_cases hik:i=k
    ·subst hik;rw[h1] at hk;(injection hk with aD;injection aD with cZ;injection cZ)
    ·exact j.env.sep i k _ _ v hik h1 hk rfl rfl h3 (by rw[e1];exact hs)
  ·obtain⟨v,h3,a,xs,e1,o1,e2,r1⟩:=j.env.get i _ h1
   exact⟨v,h3,by rw[e1];exact vO (SqL.of e2) (λ z=>z.2 i ds h1 (by rw[<-e1];exact h3)) (r1.fewer λ a z=>z.1)⟩
 ·have un:∀{m:Nat} {e:Ent},(Pu.dU ρ)[m]?=some (some e)->e.own=true->ρ[m]?=some (some e):=λ {m e} h ho=>by
   rcases Um h with⟨h1,_⟩ |⟨ds,_,rfl⟩
   ·exact h1
   ·injection ho
  exact j.env.sep i k e e' v hik (un hi oi) (un hk ok) oi ok si sk
theorem At.amT (j:At X H0 O0 O H ρ σ):∀a,O0 a->Zy ρ σ O a:=λ a z=>⟨j.sub a z,λ i ds h hs=>(j.mine i _ a h rfl hs).2 z⟩
end
section
variable {X:Cx} {st:Stmt} {rest:List Stmt} {g k:aq->So} {f:aq->R D} {p:aq->R Bool} {e:Expr} {pos:Pos}
noncomputable def bh (g k:aq->So):aq->So:=λ ρ=>match g ρ with
 | .nx ρ'=>k ρ'
 |o=>o
theorem dW:cX X [] .nx:=PSs.imp pss_nil λ σ H E h=>by
 obtain⟨H0,O0,O,ρ,j,h⟩:=h
 exact h σ H O j .refl
theorem aW (h:DS X st g):cX X [st] g:=pss_one h
theorem aM (h1:DS X st g) (h2:cX X rest k):cX X (st::rest) (bh g k):=by
 refine PSs.imp (pss_cons h1 h2) λ σ H E h=>?_
 obtain⟨H0,O0,O,ρ,j,h⟩:=h
 unfold bh at h
 refine⟨H0,O0,O,ρ,j,?_⟩
 cases e1:g ρ with
 |bad=>rw[e1] at h;exact h
 |rt d=>rw[e1] at h;exact h
 |bk ρ'=>rw[e1] at h;exact h
 |ct ρ'=>rw[e1] at h;exact h
 |ex c ρ'=>rw[e1] at h;exact h
 | nx ρ'=>
  rw[e1] at h
  have h:tK X H0 O0 O H E (k ρ'):=h
  exact λ σ' H' O' j' r'=>⟨H0,O0,O',ρ',j',h.go r'⟩
noncomputable def qM (r:R D) (ρ:aq) (k:D->So):So:=match r with
 | .ok d=>k d
 | .err c=> .ex c ρ
 | .bad=> .bad
noncomputable def retS (f:aq->R D):aq->So:=λ ρ=>qM (f (dU ρ)) ρ .rt
theorem bK (he:DE X e f):DS X (.Return (some e) pos) (retS f):=by
 refine PS.imp (ps_ret he) λ σ H E h=>?_
 obtain⟨H0,O0,O,ρ,j,h⟩:=h
 refine⟨dU ρ,Zy ρ σ O,j.inn.dU,?_⟩
 unfold retS qM at h
 cases e1:f (dU ρ) with
 |bad=>rw[e1] at h;exact h
 |err c=>rw[e1] at h;exact h σ H O j
 |ok d=>rw[e1] at h;exact λ v H' s r=>h v H' (j.same.trans s) (Rep.fewer j.amT r)
noncomputable def pY (f:aq->R D):aq->So:=λ ρ=>qM (f (dU ρ)) ρ λ Z=> .nx ρ
theorem Ag (he:DE X e f) (hs:autoParam (swapsWith e none pos.line X.env=pure false) bD._auto_1):DS X (.Expr e pos) (pY f):=by
 refine PS.imp (ps_expr he hs) λ σ H E h=>?_
 obtain⟨H0,O0,O,ρ,j,h⟩:=h
 refine⟨dU ρ,Zy ρ σ O,j.inn.dU,?_⟩
 unfold pY qM at h
 cases e1:f (dU ρ) with
 |bad=>rw[e1] at h;exact h
 |err c=>rw[e1] at h;exact h σ H O j
 |ok d=>rw[e1] at h;exact λ v H' s r=>h σ H' O (j.grow s) (Same.iW s)
noncomputable def bL (f:aq->R D) (gt:D->aq->R aq):aq->So:=λ ρ=>qM (f ρ) ρ λ d=>match gt d ρ with
 | .ok ρ'=> .nx ρ'
 |_=> .bad
theorem bU (i:Nat) {x:Str} {pos':Pos} (hN:X.N.Nodup) (he:DE X e f) (hi:autoParam (X.N[i]?=some x) bD._auto_1) (hx:autoParam (Loc X.env.scope x) vC._auto_1) (hs:autoParam (swapsWith e (some (.Name x pos')) pos.line X.env=pure false) bD._auto_1)
  (hf:autoParam (X.fn x=true\/X.env.scope.names.lookup x=some .local) vD._auto_1):DS X (.Assign [.Name x pos'] e pos) (bL f (aK i)):=by
 refine PS.imp (ps_set hN hi hx he hs hf) λ σ H E h=>?_
 obtain⟨H0,O0,O,ρ,j,h⟩:=h
 refine⟨ρ,O,j.inn,?_⟩
 unfold bL qM at h
 cases e1:f ρ with
 |bad=>rw[e1] at h;exact h
 |err c=>rw[e1] at h;exact h σ H O j
 |ok d=>rw[e1] at h;exact λ v H' s r=>h _ H' O ((j.grow s).set (z1b hi).1 r) (Same.iW s)
theorem Ny (i k:Nat) {x y:Str} {px py pt:Pos} {kt} (hc:X.calm=true) (hN:X.N.Nodup) (he:DE X e f) (hi:autoParam (X.N[i]?=some x) bD._auto_1) (hk:autoParam (X.N[k]?=some y) bD._auto_1)
  (hx:autoParam (Loc X.env.scope x) vC._auto_1) (hy:autoParam (Loc X.env.scope y) vC._auto_1)
  (hfx:autoParam (X.fn x=true\/X.env.scope.names.lookup x=some .local) vD._auto_1) (Uo:autoParam (X.fn y=true\/X.env.scope.names.lookup y=some .local) vD._auto_1)
  (hs:autoParam (swapsWithSole [.Tuple [.Name x px,.Name y py] kt pt] e pos.line X.env=pure false) bD._auto_1) (hw:autoParam (swappedStores [.Tuple [.Name x px,.Name y py] kt pt] e X.env=pure none) bD._auto_1):
  DS X (.Assign [.Tuple [.Name x px,.Name y py] kt pt] e pos) (bL f (gQ (gR 2 (bO (aK i) (bO (aK k) nilG))))):=by
 refine PS.imp (ps_asg he (pg_tup hc (pgs_cons (pg_name hN hi hx hfx) (pgs_cons (pg_name hN hk hy Uo) pgs_nil))) hs hw) λ σ H E h=>?_
 refine bc λ zQ=>?_
 obtain⟨H0,O0,O,ρ,j,h⟩:=h
 apply zQ;clear zQ
 refine⟨ρ,O,j.inn,?_⟩
 unfold bL qM at h
 cases e1:f ρ with
 |bad=>rw[e1] at h;exact h
 |err c=>rw[e1] at h;exact h σ H O j
 | ok d=>
  rw[e1] at h
  intro v H' s r
  refine bc λ zQ=>?_
  cases d with
  | tup ds=>
   apply zQ;clear zQ
   match ds,h,r with
   |[],h,_=>exact h.elim
   |[_],h,_=>exact h.elim
   |_::_::_::_,h,_=>exact (show False by simpa[gQ,gR,tK] using h).elim
   | [d1,d2],h,r=>
    refine bc λ zQ=>?_
    obtain⟨a,xs,rfl,hq,rs⟩:=r.tup
    obtain⟨v1,v2,rfl,r1,r2⟩:=rs.two
    apply zQ;clear zQ
    refine⟨a,[v1,v2],rfl,hq,rfl,v1,[v2],rfl,v2,[],rfl,rfl,?_⟩
    exact h _ H' O (((j.grow s).set (z1b hi).1 r1).set (z1b hk).1 r2) (Same.iW s)
  |_=>exact h.elim
noncomputable def jf (p:aq->R Bool) (g k:aq->So):aq->So:=λ ρ=>match p (dU ρ) with
 | .ok true=>g ρ
 | .ok false=>k ρ
 | .err c=> .ex c ρ
 | .bad=> .bad
theorem Zz {g:aq->So} {E:Ends} {H0 H H1:Hp} {O0 O:Addr->Prop} {ρ:aq} {σ:St} (j:At X H0 O0 O H ρ σ) (s:Same H H1) (h:tK X H0 O0 O H E (g ρ)):tS X g E σ H1:=
 ⟨H0,O0,O,ρ,j.grow s,h.go (Same.iW s)⟩
theorem gU {c:Expr} {a b:List Stmt} (hc:DT X c p) (ha:cX X a g) (hb:cX X b k):DS X (.If c a b pos) (jf p g k):=by
 refine PS.imp (ps_if hc ha hb) λ σ H E h=>?_
 obtain⟨H0,O0,O,ρ,j,h⟩:=h
 refine⟨dU ρ,Zy ρ σ O,j.inn.dU,?_⟩
 unfold jf at h
 cases e1:p (dU ρ) with
 |bad=>rw[e1] at h;exact h
 |err c=>rw[e1] at h;exact h σ H O j
 | ok t=>
  rw[e1] at h
  intro b' H' s e
  subst e
  cases t with
  |true=>rw[if_pos rfl];exact Zz j s h
  |false=>rw[if_neg Bool.false_ne_true];exact Zz j s h
theorem Uq:DS X st (λ Z=> .bad):=λ pins s σ H E I h=>by
 obtain⟨_,_,_,_,_,h⟩:=h
 exact h.elim
noncomputable def forL (gt:D->aq->R aq) (b:aq->So):List D->aq->So
 |[],ρ=> .nx ρ
 | x ::xs,ρ=>match gt x ρ with
  | .ok ρ1=>match b ρ1 with
   | .nx ρ2=>forL gt b xs ρ2
   | .ct ρ2=>forL gt b xs ρ2
   | .bk ρ2=> .nx ρ2
   |o=>o
  |_=> .bad
theorem Kw (gt:D->aq->R aq) (b:aq->So) (ρ:aq):forL gt b [] ρ= .nx ρ:=rfl
theorem aiW (gt:D->aq->R aq) (b:aq->So) (x:D) (xs:List D) (ρ:aq):forL gt b (x::xs) ρ=(match gt x ρ with
  | .ok ρ1=>match b ρ1 with
   | .nx ρ2=>forL gt b xs ρ2
   | .ct ρ2=>forL gt b xs ρ2
   | .bk ρ2=> .nx ρ2
   |o=>o
  |_=> .bad):=rfl
noncomputable def pZ (fi:aq->R (List D)) (gt:D->aq->R aq) (b:aq->So):aq->So:=λ ρ=>match fi ρ with
 | .ok xs=>forL gt b xs ρ
 | .err c=> .ex c ρ
 | .bad=> .bad
inductive aiX (X:Cx) (gt:D->aq->R aq) (v:V) (σ:St) (H:Hp) (Q:St->Hp->Prop):Prop
 |mk (H0:Hp) (O0 O:Addr->Prop) (ρ:aq) (d:D) (ρ':aq) (j:At X H0 O0 O H ρ σ) (r:Rep X.K O H d v) (e:gt d ρ= .ok ρ') (q:∀σ',At X H0 O0 O H ρ' σ'->Q σ' H):aiX X gt v σ H Q
noncomputable def DGA (X:Cx) (tg:Expr) (gt:D->aq->R aq):Prop:=PG X tg λ v σ H Q=>aiX X gt v σ H Q
theorem pC (i:Nat) {x:Str} (hN:X.N.Nodup) (hi:autoParam (X.N[i]?=some x) bD._auto_1) (hx:autoParam (Loc X.env.scope x) vC._auto_1) (hf:autoParam (X.fn x=true\/X.env.scope.names.lookup x=some .local) vD._auto_1):DGA X (.Name x pos) (aK i):=by
 intro pins s σ H v u Q I r h
 obtain⟨H0,O0,O,ρ,d,ρ',j,rd,e,q⟩:=h
 (injection e with aD;subst aD)
 exact pg_name hN hi hx hf pins s σ H v u Q I r (q _ (j.set (z1b hi).1 rd))
theorem Nz (i k:Nat) {x y:Str} {px py:Pos} {kt} (hc:X.calm=true) (hN:X.N.Nodup) (hi:autoParam (X.N[i]?=some x) bD._auto_1) (hk:autoParam (X.N[k]?=some y) bD._auto_1)
  (hx:autoParam (Loc X.env.scope x) vC._auto_1) (hy:autoParam (Loc X.env.scope y) vC._auto_1)
  (hfx:autoParam (X.fn x=true\/X.env.scope.names.lookup x=some .local) vD._auto_1) (Uo:autoParam (X.fn y=true\/X.env.scope.names.lookup y=some .local) vD._auto_1):
  DGA X (.Tuple [.Name x px,.Name y py] kt pos) (gQ (gR 2 (bO (aK i) (bO (aK k) nilG)))):=by
 intro pins s σ H v u Q I r h
 refine bc λ zQ=>?_
 obtain⟨H0,O0,O,ρ,d,ρ',j,rd,e,q⟩:=h
 apply zQ;clear zQ
 refine bc λ zQ=>?_
 cases d with
 | tup ds=>
  apply zQ;clear zQ
  match ds,e,rd with
  |[],e,_=>injection e
  |[_],e,_=>injection e
  |_::_::_::_,e,_=>simp[gQ,gR] at e
  | [d1,d2],e,rd=>
   refine bc λ zQ=>?_
   obtain⟨a,xs,rfl,hq,rs⟩:=rd.tup
   obtain⟨v1,v2,rfl,r1,r2⟩:=rs.two
   apply zQ;clear zQ
   (injection e with aD;subst aD)
   refine pg_tup hc (pgs_cons (pg_name hN hi hx hfx) (pgs_cons (pg_name hN hk hy Uo) pgs_nil)) rfl rfl pins s σ H _ u Q I r ⟨a,[v1,v2],rfl,hq,rfl,v1,[v2],rfl,v2,[],rfl,rfl,?_⟩
   exact q _ ((j.set (z1b hi).1 r1).set (z1b hk).1 r2)
 |_=>injection e
theorem oA {tg iter:Expr} {body:List Stmt} {fi:aq->R (List D)} {gt:D->aq->R aq} {b:aq->So} (hp:PassesOwn (model X.prog X.w) X.A X.env X.xe) (hc:X.calm=true) (hi:DI X tg iter fi) (hg:DGA X tg gt) (hb:cX X body b)
  (hs:autoParam (∀x,foldedSetIterable iter X.env x=pure x) Zr._auto_1):DS X (.For tg iter body [] pos) (pZ fi gt b):=by
 refine PS.imp (ps_for hp hc hi hg hb hs) λ σ H E h=>?_
 obtain⟨H0,O0,O,ρ,j,h⟩:=h
 refine⟨ρ,O,j.inn,?_⟩
 unfold pZ at h
 cases e1:fi ρ with
 |bad=>rw[e1] at h;exact h
 |err c=>rw[e1] at h;exact h σ H O j
 | ok xs =>
  rw[e1] at h
  have h:tK X H0 O0 O H E (forL gt b xs ρ):=h
  intro J H1 s1 yr
  have j1:=j.grow s1
  have q1:iK X.K O H O H1:=Same.iW s1
  refine⟨λ i m σ' H'=>∃O' ρ',At X H0 O0 O' H' ρ' σ'/\iK X.K O H1 O' H'/\i<=xs.length/\m=xs.length - i/\forL gt b (xs.drop i) ρ'=forL gt b xs ρ,⟨_,O,ρ,j1,.refl,Nat.zero_le _,rfl,by simp⟩,?_⟩
  rintro i m σ' H' ⟨O',ρ',j',r',hil,rfl,hf⟩
  have yat:=yr O' H' r' i
  by_cases hlt:i < xs.length
  ·have ed:xs.drop i=xs[i]::xs.drop (i+1):=List.drop_eq_getElem_cons hlt
   obtain⟨jgo,jy⟩:=yat.1 xs[i] (by simp[hlt])
   refine .inr ⟨jgo,λ σ2 H2=>∃O2 ρ2,At X H0 O0 O2 H2 ρ2 σ2/\iK X.K O H1 O2 H2/\forL gt b (xs.drop (i+1)) ρ2=forL gt b xs ρ,?_,λ x H2 y=>?_⟩
   ·rintro σ2 H2 ⟨O2,ρ2,j2,r2,hf2⟩
    exact⟨xs.length - (i+1),by exact aml hlt,O2,ρ2,j2,r2,by assumption,rfl,hf2⟩
   ·obtain⟨sm,rep⟩:=jy x H2 y
    rw[ed] at hf
    have hf:(match gt xs[i] ρ' with
     | .ok ρ1=>match b ρ1 with
      | .nx ρ2=>forL gt b (xs.drop (i+1)) ρ2
      | .ct ρ2=>forL gt b (xs.drop (i+1)) ρ2
      | .bk ρ2=> .nx ρ2
      |o=>o
     |_=> .bad)=forL gt b xs ρ:=hf
    cases e2:gt xs[i] ρ' with
    |bad=>rw[e2] at hf;rw[<-hf] at h;exact h.elim
    |err c=>rw[e2] at hf;rw[<-hf] at h;exact h.elim
    | ok ρ1=>
     rw[e2] at hf
     refine⟨H0,O0,O',ρ',xs[i],ρ1,j'.grow sm,rep,e2,λ σ3 j3=>?_⟩
     refine⟨H0,O0,O',ρ1,j3,?_⟩
     have r3:iK X.K O H1 O' H2:=r'.trans (Same.iW sm)
     have hf:(match b ρ1 with
      | .nx ρ2=>forL gt b (xs.drop (i+1)) ρ2
      | .ct ρ2=>forL gt b (xs.drop (i+1)) ρ2
      | .bk ρ2=> .nx ρ2
      |o=>o)=forL gt b xs ρ:=hf
     cases e3:b ρ1 with
     |bad=>rw[e3] at hf;rw[<-hf] at h;exact h
     |rt d=>rw[e3] at hf;rw[<-hf] at h;exact h
     |ex c ρ2=>rw[e3] at hf;rw[<-hf] at h;exact h
     |bk ρ2=>rw[e3] at hf;rw[<-hf] at h;exact λ σ4 H4 O4 j4 r4=>h σ4 H4 O4 j4 (q1.trans (r3.trans r4))
     |nx ρ2=>rw[e3] at hf;exact λ σ4 H4 O4 j4 r4=>⟨O4,ρ2,j4,r3.trans r4,hf⟩
     |ct ρ2=>rw[e3] at hf;exact λ σ4 H4 O4 j4 r4=>⟨O4,ρ2,j4,r3.trans r4,hf⟩
  ·have ei:i=xs.length:=by exact ae2 hil hlt
   subst ei
   have hf:forL gt b (xs.drop xs.length) ρ'=forL gt b xs ρ:=hf
   rw[List.drop_length] at hf
   rw[<-hf] at h
   exact .inl ⟨yat.2 (z0g _),h σ' H' O' j' (q1.trans r')⟩
noncomputable def oE (p:aq->R Bool) (b:aq->So):Nat->aq->So
 |0,_=> .bad
 | n +1,ρ=>match p (dU ρ) with
  | .ok true=>match b ρ with
   | .nx ρ'=>oE p b n ρ'
   | .ct ρ'=>oE p b n ρ'
   | .bk ρ'=> .nx ρ'
   |o=>o
  | .ok false=> .nx ρ
  | .err c=> .ex c ρ
  | .bad=> .bad
theorem alD (p:aq->R Bool) (b:aq->So) (n:Nat) (ρ:aq):oE p b (n+1) ρ=(match p (dU ρ) with
  | .ok true=>match b ρ with
   | .nx ρ'=>oE p b n ρ'
   | .ct ρ'=>oE p b n ρ'
   | .bk ρ'=> .nx ρ'
   |o=>o
  | .ok false=> .nx ρ
  | .err c=> .ex c ρ
  | .bad=> .bad):=rfl
theorem afd (n:Nat) {c:Expr} {body:List Stmt} {b:aq->So} (hp:PassesOwn (model X.prog X.w) X.A X.env X.xe) (hc:DT X c p) (hb:cX X body b):DS X (.While c body [] pos) (oE p b n):=by
 refine PS.imp (ps_while hp hc hb) λ σ H E h=>?_
 obtain⟨H0,O0,O,ρ,j,h⟩:=h
 have h:tK X H0 O0 O H E (oE p b n ρ):=h
 refine⟨λ m σ' H'=>∃O' ρ',At X H0 O0 O' H' ρ' σ'/\iK X.K O H O' H'/\oE p b m ρ'=oE p b n ρ,⟨n,O,ρ,j,.refl,rfl⟩,?_⟩
 rintro m σ' H' ⟨O',ρ',j',r',hf⟩
 refine⟨dU ρ',Zy ρ' σ' O',j'.inn.dU,?_⟩
 cases m with
 |zero=>rw[<-hf] at h;exact h.elim
 | succ m =>
  have hf:(match p (dU ρ') with
   | .ok true=>match b ρ' with
    | .nx ρ'=>oE p b m ρ'
    | .ct ρ'=>oE p b m ρ'
    | .bk ρ'=> .nx ρ'
    |o=>o
   | .ok false=> .nx ρ'
   | .err c=> .ex c ρ'
   | .bad=> .bad)=oE p b n ρ:=hf
  cases e1:p (dU ρ') with
  |bad=>rw[e1] at hf;rw[<-hf] at h;exact h
  |err c=>rw[e1] at hf;rw[<-hf] at h;exact h σ' H' O' j'
  | ok t =>
   rw[e1] at hf
   intro t' H1 s1 e
   subst e
   have j1:=j'.grow s1
   have r1:iK X.K O H O' H1:=r'.trans (Same.iW s1)
   cases t with
   | false=>
    rw[if_neg Bool.false_ne_true]
    rw[<-hf] at h
    exact h σ' H1 O' j1 r1
   | true=>
    rw[if_pos rfl]
    refine⟨λ σ2 H2=>∃O2 ρ2,At X H0 O0 O2 H2 ρ2 σ2/\iK X.K O H O2 H2/\oE p b m ρ2=oE p b n ρ,?_,H0,O0,O',ρ',j1,?_⟩
    ·rintro σ2 H2 ⟨O2,ρ2,j2,r2,hf2⟩
     exact⟨m,by exact z0g _,O2,ρ2,j2,r2,hf2⟩
    ·have hf:(match b ρ' with
      | .nx ρ'=>oE p b m ρ'
      | .ct ρ'=>oE p b m ρ'
      | .bk ρ'=> .nx ρ'
      |o=>o)=oE p b n ρ:=hf
     cases e3:b ρ' with
     |bad=>rw[e3] at hf;rw[<-hf] at h;exact h
     |rt d=>rw[e3] at hf;rw[<-hf] at h;exact h
     |ex c ρ2=>rw[e3] at hf;rw[<-hf] at h;exact h
     |bk ρ2=>rw[e3] at hf;rw[<-hf] at h;exact λ σ4 H4 O4 j4 r4=>h σ4 H4 O4 j4 (r1.trans r4)
     |nx ρ2=>rw[e3] at hf;exact λ σ4 H4 O4 j4 r4=>⟨O4,ρ2,j4,r1.trans r4,hf⟩
     |ct ρ2=>rw[e3] at hf;exact λ σ4 H4 O4 j4 r4=>⟨O4,ρ2,j4,r1.trans r4,hf⟩
end
section
variable {X:Cx} {a b e:Expr} {es:List Expr} {f g:aq->R D} {fa:aq->R (List D)} {pos:Pos}
noncomputable def alE (K:PySem.W.Frag) (t:TA):TE:=λ σ H Q=>t σ H λ xs H1=>xs.length<=sizeLine/\∀p,H1 p=none->K.lookup p=none->Q (.ref p) (upd H1 p (.lst xs))
theorem Inv.amU {pins:List (Addr×Obj)} {σ:St} {H:Hp} {s:Shared} (I:Inv X pins σ H s):X.K.lookup s.heap.objs.size=none:=by
 cases q:X.K.lookup s.heap.objs.size with
 |none=>rfl
 |some o=>exact absurd (z2c (I.kIn _ _ q)) (Nat.lt_irrefl _)
theorem ZC {t:TA} (h:PA X es t):PE X (.List es pos) (alE X.K t):=by
 intro pins s σ H Q I hq
 refine wpAny_List_spliced (thn (h pos pins s σ H _ I hq) λ us s1 ⟨xs,H1,I1,r,z,q⟩=>⟨by rw[<-r.length];exact z,?_⟩)
 have hf:H1 s1.heap.objs.size=none:=I1.hok.fresh (z0g _)
 refine⟨.ref s1.heap.objs.size,upd H1 s1.heap.objs.size (.lst xs),I1.laid (t':=s1.toks) (λ b u e=>z1a _ e) (z0g _) ?_,rfl,q _ hf (Inv.amU I1)⟩
 exact⟨z,us,0,r,z1f _ rfl⟩
noncomputable def newL (fa:aq->R (List D)) (i:Nat):aq->So:=λ ρ=>match fa ρ with
 | .ok ds=>if ds.length<=1000000 then .nx (ρ.set i (some (.lst ds))) else .bad
 | .err c=> .ex c ρ
 | .bad=> .bad
theorem At.own {H0 H:Hp} {O0 O:Addr->Prop} {ρ:aq} {σ:St} (j:At X H0 O0 O H ρ σ) {i:Nat} (hi:i < X.N.length) {p:Addr} {o:HO} {en:Ent} (hp:H p=none) (hk:X.K.lookup p=none) (ho:en.own=true)
  (hr:tY X.K (λ a=>O a\/a=p) (upd H p o) en (.ref p)):
  At X H0 O0 (λ a=>O a\/a=p) (upd H p o) (ρ.set i (some en)) (σ.set i (some (.ref p)))/\iK X.K O H (λ a=>O a\/a=p) (upd H p o):=by
 have s1:Same H (upd H p o):=Same.upd hp
 have r1:iK X.K O H (λ a=>O a\/a=p) (upd H p o):=⟨(Same.iW (K:=X.K) (O:=O) s1).ext,λ a z=>z.elim .inl λ e=> .inr (by rw[e];exact⟨hp,hk⟩),(Same.iW (K:=X.K) (O:=O) s1).dom⟩
 have h1:i < ρ.length:=by rw[j.inn.pA];exact hi
 have h2:i < σ.length:=by rw[j.inn.len];exact hi
 have nOp:¬O p:=j.inn.vZ hp
 have old:∀{e:Ent} {v:V},tY X.K O H e v->tY X.K (λ a=>O a\/a=p) (upd H p o) e v/\(e.own=true->v≠.ref p):=λ {e v} h=>by
  cases e with
  |val d=>exact⟨Rep.go r1 h,λ z=>by injection z⟩
  | lst ds=>
   obtain⟨a,xs,e1,o1,e2,r⟩:=h
   exact⟨⟨a,xs,e1,.inl o1,s1 _ _ e2,r.go r1⟩,λ Z z=>by rw[e1] at z;cases z;exact nOp o1⟩
  |obj t=>exact⟨qP.same s1 h,λ z=>by injection z⟩
  | DY kvs=>
   obtain⟨a,xs,e1,o1,e2,k,r⟩:=h
   exact⟨⟨a,xs,e1,.inl o1,s1 _ _ e2,k,r.go r1⟩,λ Z z=>by rw[e1] at z;cases z;exact nOp o1⟩
 refine⟨⟨j.same.trans s1,j.iW.trans r1,λ a z=> .inl (j.sub a z),⟨⟨λ k e h=>?_,λ k l e e' v hkl hk' hl ok ol sk sl=>?_⟩,λ a z=>?_,by rw[List.length_set];exact j.inn.len,by rw[List.length_set];exact j.inn.pA⟩,λ k e a h hoo hs=>?_⟩,r1⟩
 ·by_cases hki:k=i
  ·subst hki
   rw[z2a h1] at h
   (injection h with aD;injection aD with cZ;subst cZ)
   exact⟨.ref p,z2a h2,hr⟩
  ·rw[z1e (Ne.symm hki)] at h
   obtain⟨v,q1,q2⟩:=j.inn.env.get k e h
   exact⟨v,by rw[z1e (Ne.symm hki)];exact q1,(old q2).1⟩
 ·by_cases hki:k=i
  ·subst hki
   rw[z2a h2] at sk
   (injection sk with aD;injection aD with cZ;subst cZ)
   rw[z1e hkl] at hl sl
   obtain⟨v,q1,q2⟩:=j.inn.env.get l e' hl
   rw[q1] at sl
   (injection sl with aD;injection aD with cZ;subst cZ)
   exact (old q2).2 ol rfl
  ·rw[z1e (Ne.symm hki)] at hk' sk
   by_cases hli:l=i
   ·subst hli
    rw[z2a h2] at sl
    (injection sl with aD;injection aD with cZ;subst cZ)
    obtain⟨v,q1,q2⟩:=j.inn.env.get k e hk'
    rw[q1] at sk
    (injection sk with aD;injection aD with cZ;subst cZ)
    exact (old q2).2 ok rfl
   ·rw[z1e (Ne.symm hli)] at hl sl
    exact j.inn.env.sep k l e e' v hkl hk' hl ok ol sk sl
 ·rcases z with z |z
  ·obtain⟨u,q⟩:=j.inn.al a z
   exact⟨u,s1 _ _ q⟩
  ·rw[z];exact⟨o,upd_same⟩
 ·by_cases hki:k=i
  ·subst hki
   rw[z2a h2] at hs
   (injection hs with aD;injection aD with cZ;injection cZ with yE;subst yE)
   exact⟨j.same.free hp,λ z=>nOp (j.sub _ z)⟩
  ·rw[z1e (Ne.symm hki)] at h hs
   exact j.mine k e a h hoo hs
theorem Ah (i:Nat) {x:Str} {pos' p2:Pos} (hN:X.N.Nodup) (ha:DA X es fa) (hi:autoParam (X.N[i]?=some x) bD._auto_1) (hx:autoParam (Loc X.env.scope x) vC._auto_1) (hs:autoParam (swapsWith (.List es p2) (some (.Name x pos')) pos.line X.env=pure false) bD._auto_1)
  (hf:autoParam (X.fn x=true\/X.env.scope.names.lookup x=some .local) vD._auto_1):DS X (.Assign [.Name x pos'] (.List es p2) pos) (newL fa i):=by
 refine PS.imp (ps_set hN hi hx (ZC ha) hs hf) λ σ H E h=>?_
 obtain⟨H0,O0,O,ρ,j,h⟩:=h
 refine⟨ρ,O,j.inn,?_⟩
 unfold newL at h
 cases e1:fa ρ with
 |bad=>rw[e1] at h;exact h
 |err c=>rw[e1] at h;exact h σ H O j
 | ok ds=>
  rw[e1] at h
  intro vs H1 s1 r1
  by_cases hl:ds.length<=1000000
  ·simp only[if_pos hl] at h
   refine⟨by rw[<-r1.length];exact z0b hl gk,λ p hp hk=>?_⟩
   obtain⟨j2,r2⟩:=(j.grow s1).own (z1b hi).1 (o:= .lst vs) (en:= .lst ds) hp hk rfl ⟨p,vs,rfl,.inr rfl,upd_same,r1.go ⟨(Same.iW (K:=X.K) (O:=O) (Same.upd hp)).ext,λ a z=>z.elim .inl λ e=> .inr (by rw[e];exact⟨hp,hk⟩),(Same.iW (K:=X.K) (O:=O) (Same.upd hp)).dom⟩⟩
   exact h _ _ _ j2 ((Same.iW s1).trans r2)
  ·simp only[if_neg hl] at h
   exact h.elim
theorem At.chg {H0 H:Hp} {O0 O:Addr->Prop} {ρ:aq} {σ:St} (j:At X H0 O0 O H ρ σ) {i:Nat} {e0 en:Ent} {p:Addr} {u o:HO} (hi:ρ[i]?=some (some e0)) (h0:e0.own=true) (hp:σ[i]?=some (some (.ref p))) (hO:O p) (hu:H p=some u) (hm:Mut (some u)) (ho:en.own=true)
  (hr:iK X.K O H O (upd H p o)->tY X.K O (upd H p o) en (.ref p)):At X H0 O0 O (upd H p o) (ρ.set i (some en)) σ/\iK X.K O H O (upd H p o):=by
 have nt:∀b xs,Rd H b (.tup xs)->b≠p:=λ b xs h z=>by
  subst z
  rcases h with h |⟨_,h⟩ <;> rw[hu] at h <;> (injection h with aD;subst aD) <;> exact hm
 have r1:iK X.K O H O (upd H p o):=by
  refine⟨⟨λ b xs h=>?_,λ b xs n h=>?_⟩,λ a z=> .inl z,λ a z=>?_⟩
  ·have nb:=nt b xs h
   rcases h with h |⟨q,h⟩
   ·exact .inl (by rw[upd_ne nb];exact h)
   ·exact .inr ⟨q,by rw[upd_ne nb];exact h⟩
  ·have nb:b≠p:=λ z=>n (by rw[z];exact hO)
   rcases h with h |⟨q,h⟩
   ·exact .inl (by rw[upd_ne nb];exact h)
   ·exact .inr ⟨q,by rw[upd_ne nb];exact h⟩
  ·by_cases ea:a=p
   ·rw[ea,upd_same] at z;injection z
   ·rw[upd_ne ea] at z;exact z
 have h1:i < ρ.length:=(z1b hi).1
 obtain⟨hH0,hO0⟩:=j.mine i e0 p hi h0 hp
 refine⟨⟨λ b q z=>?_,j.iW.trans r1,j.sub,⟨⟨λ k e h=>?_,λ k l e e' v hkl hk' hl ok ol sk sl=>?_⟩,λ a z=>?_,j.inn.len,by rw[List.length_set];exact j.inn.pA⟩,λ k e a h hoo hs=>?_⟩,r1⟩
 ·rw[upd_ne (ne_of_none z hH0)];exact j.same _ _ z
 ·by_cases hki:k=i
  ·subst hki
   rw[z2a h1] at h
   (injection h with aD;injection aD with cZ;subst cZ)
   exact⟨_,hp,hr r1⟩
  ·rw [z1e (Ne.symm hki)] at h
   obtain⟨v,q1,q2⟩:=j.inn.env.get k e h
   refine⟨v,q1,?_⟩
   have nv:e.own=true->v≠.ref p:=λ z w=>by
    subst w
    exact j.inn.env.sep k i e e0 _ hki h hi z h0 q1 hp
   cases e with
   |val d=>exact Rep.go r1 q2
   | obj t=>exact qP.fz (λ b o' u hb=>by
     have nb:b≠p:=λ z=>by rw[z,hu] at hb;(injection hb with aD;subst aD);exact hm
     rw[upd_ne nb];exact hb) q2
   | lst ds=>
    obtain⟨a,xs,e1,o1,e2,r⟩:=q2
    have na:a≠p:=λ z=>nv rfl (by rw[e1,z])
    exact⟨a,xs,e1,o1,by rw[upd_ne na];exact e2,r.go r1⟩
   | DY kvs=>
    obtain⟨a,xs,e1,o1,e2,kk,r⟩:=q2
    have na:a≠p:=λ z=>nv rfl (by rw[e1,z])
    exact⟨a,xs,e1,o1,by rw[upd_ne na];exact e2,kk,r.go r1⟩
 ·have un:∀{m:Nat} {x:Ent},(ρ.set i (some en))[m]?=some (some x)->x.own=true->∃y,ρ[m]?=some (some y)/\y.own=true:=λ {m x} h ho'=>by
   by_cases hmi:m=i
   ·rw[hmi];exact⟨e0,hi,h0⟩
   ·rw[z1e (Ne.symm hmi)] at h;exact⟨x,h,ho'⟩
  obtain⟨y,hy,oy⟩:=un hk' ok
  obtain⟨y',hy',oy'⟩:=un hl ol
  exact j.inn.env.sep k l y y' v hkl hy hy' oy oy' sk sl
 ·by_cases ea:a=p
  ·rw[ea];exact⟨o,upd_same⟩
  ·obtain⟨w,q⟩:=j.inn.al a z
   exact⟨w,by rw[upd_ne ea];exact q⟩
 ·by_cases hki:k=i
  ·subst hki
   rw[hp] at hs;(injection hs with aD;injection aD with cZ;injection cZ with yE;subst yE)
   exact⟨hH0,hO0⟩
  ·rw[z1e (Ne.symm hki)] at h
   exact j.mine k e a h hoo hs
noncomputable def yQ (i:Nat) (f:aq->R D):aq->So:=λ ρ=>qM (Q5 (f ρ)) ρ λ d=>match ρ[i]? with
 |some (some (.lst ds))=>if ds.length < 1000000 then .nx (ρ.set i (some (.lst (ds++[d])))) else .bad
 |_=> .bad
theorem Ur (i:Nat) {x:Str} {px apos cpos:Pos} (he:DE X e f) (hN:autoParam (X.N[i]?=some x) bD._auto_1) (hv:autoParam (Vis X.env.scope x) Zt._auto_1)
  (hd:autoParam ((x ==("__debug__" :Str))=false) eY._auto_1) (hcd:autoParam ((x ==("__classdict__" :Str))=false) eY._auto_1)
  (hbase:autoParam (attributeBase (.Name x px) "append" X.env (eval (.Name x px) X.env)=eval (.Name x px) X.env) bD._auto_1)
  (hfew:((backTo cpos (starEach [e] X.env)).all (λ x=> !x.1) && (backToKw cpos (keywordEach [] X.env)).all (λ x=>x.1.isSome)
   && decide ([e].length+([]:List Keyword).length+(if ([]:List Keyword).isEmpty then 0 else 1) < 30))=true:=by rfl)
  (hline:autoParam ((apos.endLine ==cpos.line)=true) bD._auto_1) (hs1:autoParam (starEach [e] X.env=(false,eval e X.env)::starEach [] X.env) bD._auto_1) (hplain:autoParam ((backTo cpos (starEach [] X.env)).any (·.1)=false) bD._auto_1)
  (hs:autoParam (swapsWith (.Call (.Attribute (.Name x px) "append" apos) [e] [] cpos) none pos.line X.env=pure false) bD._auto_1):
  DS X (.Expr (.Call (.Attribute (.Name x px) "append" apos) [e] [] cpos) pos) (yQ i f):=by
 refine PS.imp (ps_expr (pe_bm PySem.F.plainAttrs_list PySem.F.slot_list_append PySem.F.type_list_append mt_append (pe_var hN hv hd hcd) (pa_cons he pa_nil hs1) hbase hfew hline hs1 hplain) hs) λ σ H E h=>?_
 refine bc λ zQ=>?_
 obtain⟨H0,O0,O,ρ,j,h⟩:=h
 apply zQ;clear zQ
 unfold yQ qM at h
 refine bc λ zQ=>?_
 cases e1:f ρ with
 |bad=>rw[e1] at h;exact h.elim
 |err c=>rw[e1] at h;exact h.elim
 | ok d =>
  apply zQ;clear zQ
  rw[e1] at h
  refine bc λ zQ=>?_
  cases e2:ρ[i]? with
  |none=>simp only[e2] at h;exact h.elim
  | some oe=>
   apply zQ;clear zQ
   refine bc λ zQ=>?_
   cases oe with
   |none=>simp only[e2] at h;exact h.elim
   | some en=>
    apply zQ;clear zQ
    refine bc λ zQ=>?_
    cases en with
    |val _=>simp only[e2] at h;exact h.elim
    |DY _=>simp only[e2] at h;exact h.elim
    |obj _=>simp only[e2] at h;exact h.elim
    | lst ds=>
     apply zQ;clear zQ
     simp only[e2] at h
     by_cases hl:ds.length < 1000000
     ·simp only[if_pos hl] at h
      refine bc λ zQ=>?_
      obtain⟨v,hv1,a,xs,rfl,hO,hH,rs⟩:=j.inn.env.get i _ e2
      apply zQ;clear zQ
      refine⟨.ref a,hv1,.inl ⟨rfl,xs,SqL.of hH⟩,?_⟩
      refine⟨ρ,O,j.inn,?_⟩
      rw[e1]
      intro w H1 s1 rw1
      have j1:=j.grow s1
      refine bc λ zQ=>?_
      obtain⟨_,hv2,a2,xs2,e3,hO2,hH2,Ed⟩:=j1.inn.env.get i _ e2
      apply zQ;clear zQ
      rw[hv1] at hv2
      (injection hv2 with aD;injection aD with cZ;subst cZ)
      (injection e3 with aD;subst aD)
      have hlen:=Ed.length
      refine⟨a,xs2,w,rfl,rfl,hH2,by have:=j5;exact aiu this hl hlen,?_⟩
      refine bc λ zQ=>?_
      obtain⟨j2,r2⟩:=j1.chg (o:= .lst (xs2++[w])) (en:= .lst (ds++[d])) e2 rfl hv1 hO2 hH2 trivial rfl λ r=>⟨a,xs2++[w],rfl,hO2,upd_same,(Ed.append (.cons rw1 .nil)).go r⟩
      apply zQ;clear zQ
      exact h _ _ _ j2 ((Same.iW s1).trans r2)
     ·simp only[if_neg hl] at h;exact h.elim
end
inductive SpD (K:PySem.W.Frag) (n:Nat) (F:List D->R D) (vs:List V) (H:Hp) (Q:VK):Prop
 | mk (O:Addr->Prop) (ds:List D) (r:aY K O H ds vs) (hl:ds.length=n) (al:∀a,O a->∃o,H a=some o) (h:match F ds with
  | .ok d=>∀v H',Same H H'->Rep K O H' d v->Q v H'
  |_=>False):SpD K n F vs H Q
noncomputable def Us (K:PySem.W.Frag) (n:Nat) (F:List D->R D):Sp:=λ vs H Q Z=>SpD K n F vs H Q
noncomputable def cT (n:Nat) (g:aq->So) (ds:List D):R D:=match g (ds.map (λ d=>some (.val d))++List.replicate n none) with
 | .rt d=> .ok d
 | .nx _=> .ok .non
 | .ex c _=> .err c
 |_=> .bad
section
variable {P:Program} {w:World} {K:PySem.W.Frag} {mg:Str->Option Value} {base:Heap}
theorem vQ {K:PySem.W.Frag} {O:Addr->Prop} {H:Hp} {ds:List D} {vs:List V} (r:aY K O H ds vs) (m:Nat) (i:Nat) (e:Ent) (h:(ds.map (λ d=>some (Ent.val d))++List.replicate m none)[i]?=some (some e)):∃v,(vs.map some++List.replicate m none)[i]?=some (some v)/\tY K O H e v/\e.own=false:=by
 by_cases hi:i < ds.length
 ·rw[List.getElem?_append_left (by simpa using hi),z2b] at h
  cases q:ds[i]? with
  |none=>rw[q] at h;injection h
  | some d=>
   rw[q] at h
   (injection h with aD;injection aD with cZ;subst cZ)
   obtain⟨v,e1,rv⟩:=r.get q
   exact⟨v,by rw[List.getElem?_append_left (by rw[z1g,<-r.length];exact hi),z2b,e1];rfl,rv,rfl⟩
 ·rw[List.getElem?_append_right (by simpa using hi),List.getElem?_replicate] at h
  split at h <;> (first |(injection h with aD;injection aD) |injection h)
theorem fnD {x qual:Str} {st:Stmt} {f:Addr} {fd:FuncData} {N ps:List Str} {k n m:Nat} {g:aq->So} {F:List D->R D} (Fn:Fun K x qual st f fd) (S:FnScope N ps (defScope st)) (hn:ps.length=n) (hm:N.length=n+m)
  (hb:∀(cdv:Value) (A:Around) (outer:List PySem.Env) (s:Shared) (H:Hp) (E:XK),Room k (A.deeper (envOfC qual (defScope st) s.heap.objs.size f cdv))->cX (cxOf CX0 P w K mg base N qual (defScope st) f cdv A outer s H E).nox (defBody st) g)
  (hF:∀ds d,ds.length=n->F ds= .ok d->cT m g ds= .ok d):FnOk P w K mg base CX0 (k+1) f fd ps (Us K n F):=by
 refine Fn.ok S (λ vs H Q E h=>?_) (λ cdv A outer s H vs Q E hr h=>?_)
 ·obtain⟨O,ds,r,hl,_⟩:=h
  rw[hn,<-hl,r.length]
 ·obtain⟨O,ds,r,hl,al,h⟩:=h
  refine⟨_,hb cdv A outer s H E hr,H,O,O,ds.map (λ d=>some (.val d))++List.replicate m none,?_,?_⟩
  ·have hst:L2.start N vs=vs.map some++List.replicate m none:=by
    unfold L2.start
    rw[show N.length - vs.length=m by rw[<-r.length];exact amm hm hl]
   refine⟨Same.refl _,.refl,λ Z z=>z,⟨⟨λ i e q=>?_,λ i k e e' v Z hi Z oi=>?_⟩,al,?_,?_⟩,λ i e a q ho=>?_⟩
   ·obtain⟨v,h1,h2,_⟩:=vQ r m i e q
    exact⟨v,by rw[hst];exact h1,h2⟩
   ·obtain⟨_,_,_,h3⟩:=vQ r m i e hi
    rw[h3] at oi;injection oi
   ·show (L2.start N vs).length=N.length
    rw[hst,z1d,z1g,List.length_replicate,<-r.length];exact aiv hl hm
   ·show (ds.map (λ d=>some (Ent.val d))++List.replicate m none).length=N.length
    rw[z1d,z1g,List.length_replicate];exact aiv hl hm
   ·obtain⟨_,_,_,h3⟩:=vQ r m i e q
    rw[h3] at ho;injection ho
  ·cases e:F ds with
   |bad=>rw[e] at h;exact h.elim
   |err c=>rw[e] at h;exact h.elim
   | ok d=>
    rw[e] at h
    have q:=hF ds d hl e
    unfold cT at q
    cases e2:g (ds.map (λ d=>some (.val d))++List.replicate m none) with
    | rt d'=>
     rw[e2] at q
     cases q
     exact λ v H' s' r'=>h v H' s' r'
    | nx ρ'=>
     rw[e2] at q
     (injection q with aD;subst aD)
     exact λ σ' H' O' j' Z=>h .non H' j'.same qO
    |bk _=>rw[e2] at q;injection q
    |ct _=>rw[e2] at q;injection q
    |ex _ _=>rw[e2] at q;injection q
    |bad=>rw[e2] at q;injection q
end
section
variable {X:Cx} {k n:Nat} {f:Addr} {fd:FuncData} {ps:List Str} {F:List D->R D} {x:Str} {p pos:Pos} {e:Expr} {es:List Expr} {fa:aq->R (List D)}
noncomputable def bw (F:List D->R D) (n:Nat) (ds:List D):R D:=if ds.length=n then Q5 (F ds) else .bad
theorem agW (G:FnOk X.prog X.w X.K X.mg X.base CX0 k f fd ps (Us X.K n F)) (hr:Room k X.A) (hg:Gl X x) (hm:X.mg x=some (.ref f)) (hk:PySem.W.keepIn X.K (.ref f)=true) (hb:Binds X.K fd ps [])
  (ha:DA X (e::es) fa) (hdb:autoParam ((x ==("__debug__" :Str))=false) eY._auto_1) (he:autoParam (starEach (e::es) X.env=(false,eval e X.env)::starEach es X.env) bD._auto_1) (hpl:autoParam ((backTo pos (starEach es X.env)).any (·.1)=false) bD._auto_1):
  DE X (.Call (.Name x p) (e::es) [] pos) (aH (bw F n) fa):=by
 refine PE.imp (pe_call (dvs:=[]) G hr hg hm hk hb .nil pass0 ha hdb he hpl) λ σ H Q h=>?_
 obtain⟨ρ,O,j,h⟩:=h
 refine go j h λ ds vs H1 e1 s1 r1 j1 h1=>?_
 unfold bw at h1
 by_cases hl:ds.length=n
 ·rw[if_pos hl] at h1
  rw[List.append_nil]
  refine⟨O,ds,r1,hl,j1.al,?_⟩
  cases q:F ds with
  |ok d=>rw[q] at h1;exact h1
  |err c=>rw[q] at h1;exact h1
  |bad=>rw[q] at h1;exact h1
 ·rw[if_neg hl] at h1;exact h1.elim
end
section
variable {X:Cx}
noncomputable def eG:List D->R D:=afa (λ ds=> .ok (.int ds.length)) (λ ds=> .ok (.int ds.length))
theorem Ai (ds:List D):eG [.tup ds]=(.ok (.int ds.length)):=rfl
theorem vR (ds:List D):eG [.lst ds]=(.ok (.int ds.length)):=rfl
theorem fj:CallD X (.builtin "len") eG:=by
 refine⟨_,call_len_seq,λ ρ O σ H Q xs ds j r h=>?_⟩
 replace h:=Zw h
 obtain⟨es,⟨rfl,h⟩ |⟨rfl,h⟩⟩:=h
 ·obtain⟨x,rfl,rx⟩:=r.one
  obtain⟨a,ys,rfl,hq,rs⟩:=rx.tup
  exact⟨a,ys,rfl,.inr hq,by rw[<-rs.length];exact fin h (cO _)⟩
 ·obtain⟨x,rfl,rx⟩:=r.one
  obtain⟨a,ys,rfl,hq,_,rs⟩:=rx.lst
  exact⟨a,ys,rfl,.inl hq,by rw[<-rs.length];exact fin h (cO _)⟩
noncomputable def p7:List D->R D:=afa (λ ds=> .ok (.tup ds)) (λ ds=> .ok (.tup ds))
theorem anf (ds:List D):p7 [.tup ds]=(.ok (.tup ds)):=rfl
theorem anb (ds:List D):p7 [.lst ds]=(.ok (.tup ds)):=rfl
theorem lN:CallD X (.type "tuple") p7:=by
 refine⟨_,call_tuple_of,λ ρ O σ H Q xs ds j r h=>?_⟩
 replace h:=Zw h
 obtain⟨es,⟨rfl,h⟩ |⟨rfl,h⟩⟩:=h
 ·obtain⟨x,rfl,rx⟩:=r.one
  obtain⟨a,ys,rfl,hq,rs⟩:=rx.tup
  exact⟨a,ys,rfl,.inr ⟨hq,fin h (jM hq rs)⟩⟩
 ·obtain⟨x,rfl,rx⟩:=r.one
  obtain⟨a,ys,rfl,hq,_,rs⟩:=rx.lst
  exact⟨a,ys,rfl,.inl ⟨hq,λ l hl=>h _ _ (Same.upd hl) (Rep.vP hl rs)⟩⟩
noncomputable def afe:List D->R D
 |[.tup ds]=> .ok (.lst ds)
 |[.lst ds]=> .ok (.lst ds)
 |_=> .bad
theorem agX:CallD X (.type "list") afe:=by
 refine⟨_,call_list_of,λ ρ O σ H Q xs ds j r h=>?_⟩
 unfold afe at h
 split at h
 ·obtain⟨x,rfl,rx⟩:=r.one
  obtain⟨a,ys,rfl,hq,rs⟩:=rx.tup
  exact⟨a,ys,rfl,.inr hq,λ l hl=>h _ _ (Same.upd hl) (Rep.nM hl (j.vZ hl) rs)⟩
 ·obtain⟨x,rfl,rx⟩:=r.one
  obtain⟨a,ys,rfl,hq,_,rs⟩:=rx.lst
  exact⟨a,ys,rfl,.inl hq,λ l hl=>h _ _ (Same.upd hl) (Rep.nM hl (j.vZ hl) rs)⟩
 ·exact h.elim
noncomputable def boolsOf:List D->Option (List Bool)
 |[]=>some []
 | .bl b::r=>(boolsOf r).map (b:: ·)
 |_=>none
theorem ac5 (b:Bool) (r:List D):boolsOf (.bl b::r)=(boolsOf r).map (b:: ·):=rfl
noncomputable def intsOf:List D->Option (List Int)
 |[]=>some []
 | .int i::r=>(intsOf r).map (i:: ·)
 |_=>none
theorem afg (b:Int) (r:List D):intsOf (.int b::r)=(intsOf r).map (b:: ·):=rfl
theorem ZD {K:PySem.W.Frag} {O:Addr->Prop} {H:Hp}:∀{ds:List D} {bs:List Bool} {vs:List V},boolsOf ds=some bs->aY K O H ds vs->vs=bs.map V.bl
 |[],bs,vs,e,r=>by (injection e with aD;subst aD);exact r.nil_inv
 | d ::ds,bs,vs,e,r=>by
  cases d with
  | bl b=>
   have e:(boolsOf ds).map (b:: ·)=some bs:=e
   cases q:boolsOf ds with
   |none=>rw[q] at e;injection e
   | some l=>
    rw[q] at e
    (injection e with aD;subst aD)
    obtain⟨x,t,rfl,rx,rt⟩:=r.cons_inv
    rw[rx.bl,ZD q rt];rfl
  |_=>injection e
theorem Ut {K:PySem.W.Frag} {O:Addr->Prop} {H:Hp}:∀{ds:List D} {bs:List Int} {vs:List V},intsOf ds=some bs->aY K O H ds vs->vs=bs.map V.int
 |[],bs,vs,e,r=>by cases e;exact r.nil_inv
 | d ::ds,bs,vs,e,r=>by
  cases d with
  | int b=>
   have e:(intsOf ds).map (b:: ·)=some bs:=e
   cases q:intsOf ds with
   |none=>rw[q] at e;cases e
   | some l=>
    rw[q] at e
    cases e
    obtain⟨x,t,rfl,rx,rt⟩:=r.cons_inv
    rw[rx.int,Ut q rt];rfl
  |_=>cases e
theorem Uu:∀{bs:List Bool} {us:List Value},Vals (bs.map V.bl) us->LSm.BoolsAre us bs
 |[],_,.nil=> .nil
 |b::bs,_,.cons r t=>by obtain rfl:=r;exact .cons b (Uu t)
theorem ac6 (hc:X.calm=true):CallR X (.builtin "all") (λ xs H Q=>∃p,∃bs:List Bool,xs=[.ref p]/\SqL X.K H p (bs.map V.bl)/\Q (.bl (bs.all id)) H):=by
 intro pins s σ H xs us Q I r h
 obtain⟨p,bs,rfl,hq,q⟩:=h
 obtain⟨u,rfl,rx⟩:=vals1 r
 obtain rfl:=rx
 obtain⟨its,r',pl,hz⟩:=I.list hq
 have hb:=Uu r'
 have hl:=pl.isList
 have hlt:p < s.heap.objs.size:=by obtain⟨_,e,_⟩:=hl;exact z2c e
 refine call_all_walk (wpAny_pyIter_list hl ?_)
 refine⟨s.heap.objs.size,[s.heap.objs.size,p],[s.heap.objs.size],its.toArray.size,_,_,λ i=>(bs[i]?).getD true,rfl,Walks.list (A:=X.A.in1) (I.ok.hd hc) _ p (Nat.ne_of_lt hlt) its.toArray,
  ⟨⟨_,z1f _ rfl,rfl,rfl⟩,hl.push _⟩,λ i v s' Q' E' hP hQ=>?_,λ h' tk hk=>?_⟩
 ·obtain⟨b,e,rfl⟩:=hb.get i v (by simpa using hP)
  simp only[e,Option.getD_some] at hQ
  exact wpAny_truthy_bool hQ
 ·have e:((List.range its.toArray.size).all λ i=>(bs[i]?).getD true)=bs.all id:=by
   rw[z1c,hb.length];exact LSm.range_all bs
  rw[e]
  exact⟨.bl _,H,I.kept (LSm.kept_iter hk),rfl,q⟩
noncomputable def p8:List D->R D:=afb λ ds=>match boolsOf ds with
  |some bs=> .ok (.bl (bs.all id))
  |none=> .bad
theorem aiY (ds:List D):p8 [.lst ds]=(match boolsOf ds with
  |some bs=> .ok (.bl (bs.all id))
  |none=> .bad):=rfl
theorem wB (hc:X.calm=true):CallD X (.builtin "all") p8:=by
 refine⟨_,ac6 hc,λ ρ O σ H Q xs ds j r h=>?_⟩
 replace h:=Zx h
 obtain⟨ds,rfl,h⟩:=h
 ·skip
  obtain⟨x,rfl,rx⟩:=r.one
  obtain⟨a,ys,rfl,hq,_,rs⟩:=rx.lst
  cases e:boolsOf ds with
  |none=>rw[e] at h;exact h.elim
  | some bs=>
   rw[e] at h
   have ey:=ZD e rs
   subst ey
   exact⟨a,bs,rfl,hq,fin h (gY _)⟩
theorem ac7 (hc:X.calm=true):CallR X (.builtin "sum") (λ xs H Q=>∃p,∃ns:List Int,xs=[.ref p]/\(SqL X.K H p (ns.map V.int)\/SqT X.K H p (ns.map V.int))/\Q (.int ns.sum) H):=by
 intro pins s σ H xs us Q I r h
 obtain⟨p,ns,rfl,hq,q⟩:=h
 obtain⟨u,rfl,rx⟩:=vals1 r
 cases rx
 have key:∀(its:List Value),Vals (ns.map V.int) its->∃zs:Array (Int×Tok),its.toArray=intItems zs/\preSum (numAt zs) zs.size=ns.sum:=λ its r'=>by
  have hi:=intsAre_of r'
  obtain⟨zs,hx⟩:=hi.allInts.items
  refine⟨zs,hx,?_⟩
  have e1:ns=zs.toList.map (·.1):=by
   rw[<-nums_intItems,<-hx]
   exact (show numsOf its.toArray.toList=ns from hi.numsOf).symm
  rw[preSum_eq,List.take_of_length_le (by simp),e1]
 rcases hq with hq |hq
 ·obtain⟨its,r',pl,hz⟩:=I.list hq
  obtain⟨zs,e1,e2⟩:=key its r'
  refine sum_intListG (I.ok.hd hc) (e1▸pl.isList) λ h' tk t' hk=>?_
  rw[e2]
  exact⟨.int _,H,I.kept hk,⟨t',rfl⟩,q⟩
 ·obtain⟨its,r',pl,hz⟩:=I.tuple hq
  obtain⟨zs,e1,e2⟩:=key its r'
  refine PySem.W.ktm_sumG (I.ok.hd hc) (show s.heap.IsTuple p (intItems zs) from e1▸pl) λ h' tk t' hk=>?_
  rw[e2]
  exact⟨.int _,H,I.kept hk,⟨t',rfl⟩,q⟩
noncomputable def Js:List D->R D
 | [.lst ds]=>match intsOf ds with
  |some bs=> .ok (.int bs.sum)
  |none=> .bad
 | [.tup ds]=>match intsOf ds with
  |some bs=> .ok (.int bs.sum)
  |none=> .bad
 |_=> .bad
set_option tactic.hygienic true in
theorem ac8 (hc:X.calm=true):CallD X (.builtin "sum") Js:=by
 refine⟨_,ac7 hc,λ ρ O σ H Q xs ds j r h=>?_⟩
 unfold Js at h
 split at h
 ·rename_i ds
  obtain⟨x,rfl,rx⟩:=r.one
  obtain⟨a,ys,rfl,hq,_,rs⟩:=rx.lst
  cases e:intsOf ds with
  |none=>rw[e] at h;exact h.elim
  | some bs=>
   rw[e] at h
   have ey:=Ut e rs
   subst ey
   exact⟨a,bs,rfl,.inl hq,fin h (cO _)⟩
 ·rename_i ds
  obtain⟨x,rfl,rx⟩:=r.one
  obtain⟨a,ys,rfl,hq,rs⟩:=rx.tup
  cases e:intsOf ds with
  |none=>rw[e] at h;exact h.elim
  | some bs=>
   rw[e] at h
   have ey:=Ut e rs
   subst ey
   exact⟨a,bs,rfl,.inr hq,fin h (cO _)⟩
 ·exact h.elim
noncomputable def mY:D->String
 | .non=> "NoneType"
 | .bl _=> "bool"
 | .int _=> "int"
 | .str _=> "str"
 | .tup _=> "tuple"
 | .lst _=> "list"
theorem ac9 (T:String) (ans:String->Bool) (hk:∀d:D,PySem.W.kitOne X.K (.type (mY d)) (.type T)=some (ans (mY d))):
  CallR X (.builtin "isinstance") (λ xs H Q=>∃x O d,xs=[x,.ty T]/\Rep X.K O H d x/\Q (.bl (ans (mY d))) H):=by
 intro pins s σ H xs us Q I r h
 refine bc λ zQ=>?_
 obtain⟨x,O,d,rfl,rd,q⟩:=h
 obtain⟨u,u2,rfl,rx,r2⟩:=vals2 r
 apply zQ;clear zQ
 obtain rfl:=r2
 have e:=hk d
 have fin':∀tk,EP X pins σ Q (.bool (ans (mY d))) {s with toks:=tk}:=λ tk=>⟨.bl _,H,I.tok _,rfl,q⟩
 refine bc λ zQ=>?_
 cases d with
 | non=>
  apply zQ;clear zQ
  cases rd.non
  obtain rfl:u=Value.none:=rx
  exact PySem.W.kia_one PySem.W.kitx_none I.kIn True.intro e (λ z=>nomatch z) fin'
 | bl b=>
  apply zQ;clear zQ
  cases rd.bl
  obtain rfl:u=Value.bool b:=rx
  exact PySem.W.kia_one PySem.W.kitx_bool I.kIn True.intro e (λ z=>nomatch z) fin'
 | int i=>
  apply zQ;clear zQ
  cases rd.int
  refine bc λ zQ=>?_
  obtain⟨t,z⟩:=(show ∃t,u=Value.int i t from rx)
  apply zQ;clear zQ
  subst z
  exact PySem.W.kia_one PySem.W.kitx_int I.kIn True.intro e (λ z=>nomatch z) fin'
 | str y=>
  apply zQ;clear zQ
  cases rd.str
  refine bc λ zQ=>?_
  obtain⟨t,z⟩:=(show ∃t,u=Value.str y t from rx)
  apply zQ;clear zQ
  subst z
  exact PySem.W.kia_one PySem.W.kitx_str I.kIn True.intro e (λ z=>nomatch z) fin'
 | tup ds=>
  apply zQ;clear zQ
  refine bc λ zQ=>?_
  obtain⟨a,ys,rfl,hq,_⟩:=rd.tup
  apply zQ;clear zQ
  obtain rfl:u=Value.ref a:=rx
  refine bc λ zQ=>?_
  obtain⟨its,_,pl,_⟩:=I.tuple hq
  obtain⟨o,h1,h2,_⟩:=pl
  apply zQ;clear zQ
  exact PySem.W.kia_one PySem.W.kitx_tuple I.kIn ⟨o,h1,h2⟩ e (λ z=>nomatch z) fin'
 | lst ds=>
  apply zQ;clear zQ
  refine bc λ zQ=>?_
  obtain⟨a,ys,rfl,hq,_,_⟩:=rd.lst
  apply zQ;clear zQ
  obtain rfl:u=Value.ref a:=rx
  refine bc λ zQ=>?_
  obtain⟨its,_,pl,_⟩:=I.list hq
  obtain⟨o,n,h1,h2,_⟩:=pl
  apply zQ;clear zQ
  exact PySem.W.kia_one PySem.W.kitx_list I.kIn ⟨o,h1,h2⟩ e (λ z=>nomatch z) fin'
noncomputable def Bt (ans:String->Bool) (f:aq->R D):aq->R D:=λ ρ=>(f ρ).bind λ d=> .ok (.bl (ans (mY d)))
theorem vU {T:String} {ans:String->Bool} {x y:Str} {e:Expr} {f:aq->R D} {p p2 pos:Pos} (hk:∀d:D,PySem.W.kitOne X.K (.type (mY d)) (.type T)=some (ans (mY d))) (he:DE X e f)
  (hg:Gl X x) (hm:X.mg x=none) (hv:bootBuiltins x=some (.builtin "isinstance")) (hgy:Gl X y) (hmy:X.mg y=none) (hvy:bootBuiltins y=some (.type T)) (hn:autoParam (x≠"__name__") eY._auto_1) (hdb:autoParam ((x ==("__debug__" :Str))=false) eY._auto_1)
  (hny:autoParam (y≠"__name__") eY._auto_1) (hdy:autoParam ((y ==("__debug__" :Str))=false) eY._auto_1)
  (hs:autoParam (starEach [e,.Name y p2] X.env=(false,eval e X.env)::starEach [.Name y p2] X.env) bD._auto_1) (hs2:autoParam (starEach [.Name y p2] X.env=(false,eval (.Name y p2) X.env)::starEach [] X.env) bD._auto_1) (hpl:autoParam ((backTo pos (starEach [.Name y p2] X.env)).any (·.1)=false) bD._auto_1):
  DE X (.Call (.Name x p) [e,.Name y p2] [] pos) (Bt ans f):=by
 refine PE.imp (pe_callB (ac9 T ans hk) hg hm hv (pa_cons he (pa_cons (pe_bltn (v:= .ty T) hgy hmy hvy rfl hny hdy) pa_nil hs2) hs) hn hdb hs hpl) λ σ H Q h=>?_
 obtain⟨ρ,O,j,h⟩:=h
 refine go j h λ d v H1 e1 s1 r1 j1 h1=>?_
 exact⟨v,O,d,rfl,r1,fin h1 (gY _)⟩
end
mutual
noncomputable def fB:D->D->Bool
 | .non,.non=>true
 | .bl a,.bl b=>a ==b
 | .bl a,.int b=>(if a then 1 else 0) ==b
 | .int a,.bl b=>a ==(if b then 1 else 0)
 | .int a,.int b=>a ==b
 | .str a,.str b=>a ==b
 | .tup a,.tup b=>wC a b
 | .lst a,.lst b=>wC a b
 |_,_=>false
noncomputable def wC:List D->List D->Bool
 |[],[]=>true
 |x::xs,y::ys=>fB x y && wC xs ys
 |_,_=>false
end
mutual
noncomputable def dep:D->Nat
 | .tup a=>deps a+1
 | .lst a=>deps a+1
 |_=>0
noncomputable def deps:List D->Nat
 |[]=>0
 |x::xs=>max (dep x) (deps xs)
end
theorem jF (a:List D):dep (.tup a)=deps a+1:=rfl
theorem jG (a:List D):dep (.lst a)=deps a+1:=rfl
theorem vI (a:Int):dep (.int a)=0:=rfl
theorem vJ (a:Bool):dep (.bl a)=0:=rfl
theorem vK (a:Str):dep (.str a)=0:=rfl
theorem vL:dep .non=0:=rfl
theorem aiZ:deps []=0:=rfl
theorem ada (x:D) (xs:List D):deps (x::xs)=max (dep x) (deps xs):=rfl
theorem qT:∀{ds:List D} {d:D},d∈ds->dep d<=deps ds
 |[],_,h=>by simp at h
 | x::xs,d,h=>by
  rw[ada]
  rcases List.mem_cons.mp h with e |h
  ·subst e;exact Nat.le_max_left _ _
  ·exact z0b (qT h) (Nat.le_max_right _ _)
theorem NK (x y:D) (xs ys:List D):wC (x::xs) (y::ys)=(fB x y && wC xs ys):=rfl
theorem aN (a b:Bool):fB (.bl a) (.bl b)=(a ==b):=rfl
theorem aO (a:Bool) (b:Int):fB (.bl a) (.int b)=((if a then 1 else 0) ==b):=rfl
theorem aP (a:Int) (b:Bool):fB (.int a) (.bl b)=(a ==(if b then 1 else 0)):=rfl
theorem aQ (a b:Int):fB (.int a) (.int b)=(a ==b):=rfl
theorem aR (a b:Str):fB (.str a) (.str b)=(a ==b):=rfl
theorem aL (a b:List D):fB (.tup a) (.tup b)=wC a b:=rfl
theorem aJ (a b:List D):fB (.lst a) (.lst b)=wC a b:=rfl
mutual
theorem Jt:∀d:D,fB d d=true
 | .non=>rfl
 | .bl a=>by simp[aN,aO,aP,aQ,aR,aL,aJ]
 | .int a=>by simp[aN,aO,aP,aQ,aR,aL,aJ]
 | .str a=>by simp[aN,aO,aP,aQ,aR,aL,aJ]
 | .tup a=>by rw[aL];exact tL a
 | .lst a=>by rw[aJ];exact tL a
theorem tL:∀d:List D,wC d d=true
 |[]=>rfl
 |x::xs=>by rw[NK,Jt x,tL xs];rfl
end
theorem wD:∀{xs ys:List D},xs.length≠ys.length->wC xs ys=false
 |[],[],h=>absurd rfl h
 |[],_::_,_=>rfl
 |_::_,[],_=>rfl
 | x::xs,y::ys,h=>by
  rw[NK,wD (xs:=xs) (ys:=ys) (λ e=>h (by simp[e])),Bool.and_false]
theorem wF:∀{xs ys:List D},xs.length=ys.length->wC xs ys=(List.range xs.length).all λ i=>fB (xs.getD i .non) (ys.getD i .non)
 |[],[],_=>rfl
 |[],_::_,h=>by simp at h
 |_::_,[],h=>by simp at h
 | x::xs,y::ys,h=>by
  rw[NK,wF (xs:=xs) (ys:=ys) (by simpa using h),List.length_cons,List.range_succ_eq_map,List.all_cons,List.all_map]
  rfl
end Pu
namespace Pu
open PySem PySem.Spec L2
open PyProof.Rows hiding St
open PySem.SeqAt
inductive LkT (X:Cx) (O:Addr->Prop) (H:Hp) (s:Shared) (ds:List D) (u:Value):Prop
 |mk (a:Addr) (xs:List V) (its:List Value) (e:u=Value.ref a) (q:SqT X.K H a xs) (v:Vals xs its) (p:s.heap.IsTuple a its.toArray) (r:aY X.K O H ds xs):LkT X O H s ds u
inductive LkL (X:Cx) (O:Addr->Prop) (H:Hp) (s:Shared) (ds:List D) (u:Value):Prop
 |mk (a:Addr) (xs:List V) (its:List Value) (e:u=Value.ref a) (q:SqL X.K H a xs) (v:Vals xs its) (p:s.heap.IsList a its.toArray) (r:aY X.K O H ds xs):LkL X O H s ds u
noncomputable def Lk (X:Cx) (O:Addr->Prop) (H:Hp) (s:Shared):D->Value->Prop
 | .non,u=>u=Value.none
 | .bl b,u=>u=Value.bool b
 | .int i,u=>∃t,u=Value.int i t
 | .str x,u=>∃t,u=Value.str x t
 | .tup ds,u=>LkT X O H s ds u
 | .lst ds,u=>LkL X O H s ds u
section
variable {X:Cx} {pins:List (Addr×Obj)} {σ:St} {H:Hp} {s:Shared} {O O':Addr->Prop}
theorem yF (I:Inv X pins σ H s) {d:D} {v:V} {u:Value} (r:Rep X.K O H d v) (q:RelV v u):Lk X O H s d u:=by
 cases d with
 |non=>cases r.non;exact q
 |bl b=>cases r.bl;exact q
 |int i=>cases r.int;exact q
 |str x=>cases r.str;exact q
 | tup ds=>
  obtain⟨a,xs,rfl,hq,rs⟩:=r.tup
  obtain rfl:u=Value.ref a:=q
  obtain⟨its,rv,p,_⟩:=I.tuple hq
  exact⟨a,xs,its,rfl,hq,rv,p,rs⟩
 | lst ds=>
  obtain⟨a,xs,rfl,hq,_,rs⟩:=r.lst
  obtain rfl:u=Value.ref a:=q
  obtain⟨its,rv,p,_⟩:=I.list hq
  exact⟨a,xs,its,rfl,hq,rv,p.isList,rs⟩
theorem isTuple_list {a:Addr} {p q:Array Value} (h1:s.heap.IsTuple a p) (h2:s.heap.IsList a q):False:=ne_of_list_tuple h2 h1 rfl
mutual
theorem Rep.inj (I:Inv X pins σ H s):∀(d e:D) (v:V),Rep X.K O H d v->Rep X.K O' H e v->d=e
 | .non,e,v,r,q=>by
  cases r.non
  cases e with
  |non=>rfl
  |bl _=>cases q.bl
  |int _=>cases q.int
  |str _=>cases q.str
  |tup _=>obtain⟨_,_,z,_⟩:=q.tup;injection z
  |lst _=>obtain⟨_,_,z,_⟩:=q.lst;injection z
 | .bl b,e,v,r,q=>by
  cases r.bl
  cases e with
  |non=>cases q.non
  |bl _=>cases q.bl;rfl
  |int _=>cases q.int
  |str _=>cases q.str
  |tup _=>obtain⟨_,_,z,_⟩:=q.tup;injection z
  |lst _=>obtain⟨_,_,z,_⟩:=q.lst;injection z
 | .int b,e,v,r,q=>by
  cases r.int
  cases e with
  |non=>cases q.non
  |bl _=>cases q.bl
  |int _=>cases q.int;rfl
  |str _=>cases q.str
  |tup _=>obtain⟨_,_,z,_⟩:=q.tup;injection z
  |lst _=>obtain⟨_,_,z,_⟩:=q.lst;injection z
 | .str b,e,v,r,q=>by
  cases r.str
  cases e with
  |non=>cases q.non
  |bl _=>cases q.bl
  |int _=>cases q.int
  |str _=>cases q.str;rfl
  |tup _=>obtain⟨_,_,z,_⟩:=q.tup;injection z
  |lst _=>obtain⟨_,_,z,_⟩:=q.lst;injection z
 | .tup ds,e,v,r,q=>by
  obtain⟨a,xs,rfl,hq,rs⟩:=r.tup
  cases e with
  |non=>cases q.non
  |bl _=>cases q.bl
  |int _=>cases q.int
  |str _=>cases q.str
  | tup es=>
   obtain⟨b,ys,z,hq',rs'⟩:=q.tup
   (injection z with aD;subst aD)
   cases I.tuple_inj hq hq'
   rw[aY.inj I ds es xs rs rs']
  | lst es=>
   obtain⟨b,ys,z,hq',_,rs'⟩:=q.lst
   (injection z with aD;subst aD)
   obtain⟨_,_,p1,_⟩:=I.tuple hq
   obtain⟨_,_,p2,_⟩:=I.list hq'
   exact (isTuple_list p1 p2.isList).elim
 | .lst ds,e,v,r,q=>by
  obtain⟨a,xs,rfl,hq,_,rs⟩:=r.lst
  cases e with
  |non=>cases q.non
  |bl _=>cases q.bl
  |int _=>cases q.int
  |str _=>cases q.str
  | tup es=>
   obtain⟨b,ys,z,hq',rs'⟩:=q.tup
   (injection z with aD;subst aD)
   obtain⟨_,_,p1,_⟩:=I.tuple hq'
   obtain⟨_,_,p2,_⟩:=I.list hq
   exact (isTuple_list p1 p2.isList).elim
  | lst es=>
   obtain⟨b,ys,z,hq',_,rs'⟩:=q.lst
   (injection z with aD;subst aD)
   cases I.list_inj hq hq'
   rw[aY.inj I ds es xs rs rs']
theorem aY.inj (I:Inv X pins σ H s):∀(ds es:List D) (vs:List V),aY X.K O H ds vs->aY X.K O' H es vs->ds=es
 | [],es,vs,r,q=>by
  rw[r.nil_inv] at q
  cases es with
  |nil=>rfl
  |cons e es=>obtain⟨_,_,z,_⟩:=q.cons_inv;injection z
 | d ::ds,es,vs,r,q=>by
  obtain⟨x,t,rfl,rx,rt⟩:=r.cons_inv
  cases es with
  |nil=>cases q.nil_inv
  | cons e es=>
   obtain⟨_,_,z,qx,qt⟩:=q.cons_inv
   (injection z with aD cZ;subst aD;subst cZ)
   rw[Rep.inj I d e x rx qx,aY.inj I ds es t rt qt]
end
theorem qU {A:Around} {ds es:List D} {xs ys:List V} {its jts:List Value} (r1:aY X.K O H ds xs) (r2:aY X.K O' H es ys) (v1:Vals xs its) (v2:Vals ys jts)
  (ih:∀d∈ds,∀(e:D) (v w:V) (u u':Value),Rep X.K O H d v->Rep X.K O' H e w->RelV v u->RelV w u'->EqAt A s u u' (fB d e)):
  ∀j (h1:j < its.toArray.size) (h2:j < jts.toArray.size),EqAt A s its.toArray[j] jts.toArray[j] (fB (ds.getD j .non) (es.getD j .non)):=by
 intro j h1 h2
 have e1:its[j]?=some its.toArray[j]:=by simp
 have e2:jts[j]?=some jts.toArray[j]:=by simp
 have l1:=v1.length
 have l2:=v2.length
 have k1:=r1.length
 have k2:=r2.length
 simp only[z1c] at h1 h2
 refine bc λ zQ=>?_
 obtain⟨v,ev,rv⟩:∃v,xs[j]?=some v/\RelV v its.toArray[j]:=by
  have hj:j < xs.length:=by exact Ue h1 l1
  obtain⟨u,eu,ru⟩:=v1.get (i:=j) (x:=xs[j]) (by simp[hj])
  rw[e1] at eu;(injection eu with aD;subst aD)
  exact⟨_,by simp[hj],ru⟩
 obtain⟨w,ew,rw'⟩:∃v,ys[j]?=some v/\RelV v jts.toArray[j]:=by
  have hj:j < ys.length:=by exact Ue h2 l2
  obtain⟨u,eu,ru⟩:=v2.get (i:=j) (x:=ys[j]) (by simp[hj])
  rw[e2] at eu;(injection eu with aD;subst aD)
  exact⟨_,by simp[hj],ru⟩
 obtain⟨d,ed,rd⟩:=r1.ak ev
 obtain⟨e,ee,re⟩:=r2.ak ew
 apply zQ;clear zQ
 have g1:ds.getD j .non=d:=by simp[List.getD,ed]
 have g2:es.getD j .non=e:=by simp[List.getD,ee]
 rw[g1,g2]
 exact ih d (List.mem_of_getElem? ed) e v w _ _ rd re rv rw'
theorem Ju {ds es:List D} {n m:Nat} (hn:ds.length=n) (hm:es.length=m):((List.range (min n m)).all (λ j=>fB (ds.getD j .non) (es.getD j .non)) && n ==m)=wC ds es:=by
 by_cases h:n=m
 ·subst h
  rw[Nat.min_self,beq_self_eq_true,Bool.and_true,wF (by rw[hn,hm]),hn]
 ·rw[wD (by rw[hn,hm];exact h),show (n ==m)=false by simpa using h,Bool.and_false]
theorem Uv (I:Inv X pins σ H s) {A:Around} (hu:A.units < cLine) {d e:D} {u u':Value} (h1:Lk X O H s d u) (h2:Lk X O' H s e u')
  (ih:∀c∈(match d with | .tup ds=>ds | .lst ds=>ds |_=>[]),∀(e:D) (v w:V) (u u':Value),Rep X.K O H c v->Rep X.K O' H e w->RelV v u->RelV w u'->EqAt A.in1 s u u' (fB c e)):EqAt A s u u' (fB d e):=by
 cases d with
 | non =>
  obtain rfl:=h1
  cases e with
  | non=>
   obtain rfl:=h2
   exact EqAt.same _
  | bl b=>
   obtain rfl:=h2
   first
    |exact EqAt.none_bool _
    |(have q:=EqAt.none_bool (A:=A) (s:=s) _;simpa[aN,aO,aP,aQ,aR,aL,aJ] using q)
  | int b=>
   obtain⟨t2,rfl⟩:=h2
   first
    |exact EqAt.none_int _ _
    |(have q:=EqAt.none_int (A:=A) (s:=s) _ _;simpa[aN,aO,aP,aQ,aR,aL,aJ] using q)
  | str b=>
   obtain⟨t2,rfl⟩:=h2
   first
    |exact EqAt.none_str _ _
    |(have q:=EqAt.none_str (A:=A) (s:=s) _ _;simpa[aN,aO,aP,aQ,aR,aL,aJ] using q)
  | tup es=>
   obtain⟨p2,ys,jts,rfl,hq2,v2,hp2,r2⟩:=h2
   first
    |exact EqAt.none_tuple hp2 hu
    |(have q:=EqAt.none_tuple (A:=A) (s:=s) hp2 hu;simpa[aN,aO,aP,aQ,aR,aL,aJ] using q)
  | lst es=>
   obtain⟨p2,ys,jts,rfl,hq2,v2,hp2,r2⟩:=h2
   first
    |exact EqAt.none_list hp2 hu
    |(have q:=EqAt.none_list (A:=A) (s:=s) hp2 hu;simpa[aN,aO,aP,aQ,aR,aL,aJ] using q)
 | bl a=>
  obtain rfl:=h1
  cases e with
  | non=>
   obtain rfl:=h2
   first
    |exact EqAt.bool_none _
    |(have q:=EqAt.bool_none (A:=A) (s:=s) _;simpa[aN,aO,aP,aQ,aR,aL,aJ] using q)
  | bl b=>
   obtain rfl:=h2
   first
    |exact EqAt.bool_bool _ _
    |(have q:=EqAt.bool_bool (A:=A) (s:=s) _ _;simpa[aN,aO,aP,aQ,aR,aL,aJ] using q)
  | int b=>
   obtain⟨t2,rfl⟩:=h2
   first
    |exact EqAt.bool_int _ _ _
    |(have q:=EqAt.bool_int (A:=A) (s:=s) _ _ _;simpa[aN,aO,aP,aQ,aR,aL,aJ] using q)
  | str b=>
   obtain⟨t2,rfl⟩:=h2
   first
    |exact EqAt.bool_str _ _ _
    |(have q:=EqAt.bool_str (A:=A) (s:=s) _ _ _;simpa[aN,aO,aP,aQ,aR,aL,aJ] using q)
  | tup es=>
   obtain⟨p2,ys,jts,rfl,hq2,v2,hp2,r2⟩:=h2
   first
    |exact EqAt.bool_tuple _ hp2 hu
    |(have q:=EqAt.bool_tuple (A:=A) (s:=s) _ hp2 hu;simpa[aN,aO,aP,aQ,aR,aL,aJ] using q)
  | lst es=>
   obtain⟨p2,ys,jts,rfl,hq2,v2,hp2,r2⟩:=h2
   first
    |exact EqAt.bool_list _ hp2 hu
    |(have q:=EqAt.bool_list (A:=A) (s:=s) _ hp2 hu;simpa[aN,aO,aP,aQ,aR,aL,aJ] using q)
 | int a=>
  obtain⟨t1,rfl⟩:=h1
  cases e with
  | non=>
   obtain rfl:=h2
   first
    |exact EqAt.int_none _ _
    |(have q:=EqAt.int_none (A:=A) (s:=s) _ _;simpa[aN,aO,aP,aQ,aR,aL,aJ] using q)
  | bl b=>
   obtain rfl:=h2
   first
    |exact EqAt.int_bool _ _ _
    |(have q:=EqAt.int_bool (A:=A) (s:=s) _ _ _;simpa[aN,aO,aP,aQ,aR,aL,aJ] using q)
  | int b=>
   obtain⟨t2,rfl⟩:=h2
   first
    |exact EqAt.int_int _ _ _ _
    |(have q:=EqAt.int_int (A:=A) (s:=s) _ _ _ _;simpa[aN,aO,aP,aQ,aR,aL,aJ] using q)
  | str b=>
   obtain⟨t2,rfl⟩:=h2
   first
    |exact EqAt.int_str _ _ _ _
    |(have q:=EqAt.int_str (A:=A) (s:=s) _ _ _ _;simpa[aN,aO,aP,aQ,aR,aL,aJ] using q)
  | tup es=>
   obtain⟨p2,ys,jts,rfl,hq2,v2,hp2,r2⟩:=h2
   first
    |exact EqAt.int_tuple _ _ hp2 hu
    |(have q:=EqAt.int_tuple (A:=A) (s:=s) _ _ hp2 hu;simpa[aN,aO,aP,aQ,aR,aL,aJ] using q)
  | lst es=>
   obtain⟨p2,ys,jts,rfl,hq2,v2,hp2,r2⟩:=h2
   first
    |exact EqAt.int_list _ _ hp2 hu
    |(have q:=EqAt.int_list (A:=A) (s:=s) _ _ hp2 hu;simpa[aN,aO,aP,aQ,aR,aL,aJ] using q)
 | str a=>
  obtain⟨t1,rfl⟩:=h1
  cases e with
  | non=>
   obtain rfl:=h2
   first
    |exact EqAt.str_none _ _
    |(have q:=EqAt.str_none (A:=A) (s:=s) _ _;simpa[aN,aO,aP,aQ,aR,aL,aJ] using q)
  | bl b=>
   obtain rfl:=h2
   first
    |exact EqAt.str_bool _ _ _
    |(have q:=EqAt.str_bool (A:=A) (s:=s) _ _ _;simpa[aN,aO,aP,aQ,aR,aL,aJ] using q)
  | int b=>
   obtain⟨t2,rfl⟩:=h2
   first
    |exact EqAt.str_int _ _ _ _
    |(have q:=EqAt.str_int (A:=A) (s:=s) _ _ _ _;simpa[aN,aO,aP,aQ,aR,aL,aJ] using q)
  | str b=>
   obtain⟨t2,rfl⟩:=h2
   first
    |exact EqAt.str_str _ _ _ _
    |(have q:=EqAt.str_str (A:=A) (s:=s) _ _ _ _;simpa[aN,aO,aP,aQ,aR,aL,aJ] using q)
  | tup es=>
   obtain⟨p2,ys,jts,rfl,hq2,v2,hp2,r2⟩:=h2
   first
    |exact EqAt.str_tuple _ _ hp2 hu
    |(have q:=EqAt.str_tuple (A:=A) (s:=s) _ _ hp2 hu;simpa[aN,aO,aP,aQ,aR,aL,aJ] using q)
  | lst es=>
   obtain⟨p2,ys,jts,rfl,hq2,v2,hp2,r2⟩:=h2
   first
    |exact EqAt.str_list _ _ hp2 hu
    |(have q:=EqAt.str_list (A:=A) (s:=s) _ _ hp2 hu;simpa[aN,aO,aP,aQ,aR,aL,aJ] using q)
 | tup ds=>
  obtain⟨p1,xs,its,rfl,hq1,v1,hp1,r1⟩:=h1
  cases e with
  | non=>
   obtain rfl:=h2
   first
    |exact EqAt.tuple_none hp1 hu
    |(have q:=EqAt.tuple_none (A:=A) (s:=s) hp1 hu;simpa[aN,aO,aP,aQ,aR,aL,aJ] using q)
  | bl b=>
   obtain rfl:=h2
   first
    |exact EqAt.tuple_bool _ hp1 hu
    |(have q:=EqAt.tuple_bool (A:=A) (s:=s) _ hp1 hu;simpa[aN,aO,aP,aQ,aR,aL,aJ] using q)
  | int b=>
   obtain⟨t2,rfl⟩:=h2
   first
    |exact EqAt.tuple_int _ _ hp1 hu
    |(have q:=EqAt.tuple_int (A:=A) (s:=s) _ _ hp1 hu;simpa[aN,aO,aP,aQ,aR,aL,aJ] using q)
  | str b=>
   obtain⟨t2,rfl⟩:=h2
   first
    |exact EqAt.tuple_str _ _ hp1 hu
    |(have q:=EqAt.tuple_str (A:=A) (s:=s) _ _ hp1 hu;simpa[aN,aO,aP,aQ,aR,aL,aJ] using q)
  | tup es=>
   obtain⟨p2,ys,jts,rfl,hq2,v2,hp2,r2⟩:=h2
   by_cases hne:p1=p2
   ·subst hne
    cases I.tuple_inj hq1 hq2
    rw[aL,aY.inj I ds es xs r1 r2,tL]
    exact EqAt.same _
   ·have q:=EqAt.of_refs hne (RcAt.tuples hp1 hp2 hu (qU r1 r2 v1 v2 ih))
    simp only[z1c] at q
    rw[Ju (r1.length.trans v1.length) (r2.length.trans v2.length)] at q
    rw[aL];exact q
  | lst es=>
   obtain⟨p2,ys,jts,rfl,hq2,v2,hp2,r2⟩:=h2
   first
    |exact EqAt.tuple_list hp1 hp2 hu
    |(have q:=EqAt.tuple_list (A:=A) (s:=s) hp1 hp2 hu;simpa[aN,aO,aP,aQ,aR,aL,aJ] using q)
 | lst ds=>
  obtain⟨p1,xs,its,rfl,hq1,v1,hp1,r1⟩:=h1
  cases e with
  | non=>
   obtain rfl:=h2
   first
    |exact EqAt.list_none hp1 hu
    |(have q:=EqAt.list_none (A:=A) (s:=s) hp1 hu;simpa[aN,aO,aP,aQ,aR,aL,aJ] using q)
  | bl b=>
   obtain rfl:=h2
   first
    |exact EqAt.list_bool _ hp1 hu
    |(have q:=EqAt.list_bool (A:=A) (s:=s) _ hp1 hu;simpa[aN,aO,aP,aQ,aR,aL,aJ] using q)
  | int b=>
   obtain⟨t2,rfl⟩:=h2
   first
    |exact EqAt.list_int _ _ hp1 hu
    |(have q:=EqAt.list_int (A:=A) (s:=s) _ _ hp1 hu;simpa[aN,aO,aP,aQ,aR,aL,aJ] using q)
  | str b=>
   obtain⟨t2,rfl⟩:=h2
   first
    |exact EqAt.list_str _ _ hp1 hu
    |(have q:=EqAt.list_str (A:=A) (s:=s) _ _ hp1 hu;simpa[aN,aO,aP,aQ,aR,aL,aJ] using q)
  | tup es=>
   obtain⟨p2,ys,jts,rfl,hq2,v2,hp2,r2⟩:=h2
   first
    |exact EqAt.list_tuple hp1 hp2 hu
    |(have q:=EqAt.list_tuple (A:=A) (s:=s) hp1 hp2 hu;simpa[aN,aO,aP,aQ,aR,aL,aJ] using q)
  | lst es=>
   obtain⟨p2,ys,jts,rfl,hq2,v2,hp2,r2⟩:=h2
   by_cases hne:p1=p2
   ·subst hne
    cases I.list_inj hq1 hq2
    rw[aJ,aY.inj I ds es xs r1 r2,tL]
    exact EqAt.same _
   ·by_cases hz:ds.length=es.length
    ·have q:=EqAt.of_refs hne (RcAt.lists hp1 hp2 (by simp only[z1c];rw[<-v1.length,<-v2.length,<-r1.length,<-r2.length];exact hz) hu (qU r1 r2 v1 v2 ih))
     rw[z1c,<-v1.length,<-r1.length,<-wF hz] at q
     rw[aJ];exact q
    ·rw[aJ,wD hz]
     exact EqAt.of_refs hne (RcAt.lists_lengths hp1 hp2 (by simp only[z1c];rw[<-v1.length,<-v2.length,<-r1.length,<-r2.length];simpa using hz) hu)
theorem afh (I:Inv X pins σ H s) {A:Around} (hu:A.units < cLine) {d e:D} {u u':Value} (h1:Lk X O H s d u) (h2:Lk X O' H s e u')
  (ih:∀c∈(match d with | .tup ds=>ds | .lst ds=>ds |_=>[]),∀(e:D) (v w:V) (u u':Value),Rep X.K O H c v->Rep X.K O' H e w->RelV v u->RelV w u'->EqAt A.in1 s u u' (fB c e)):RcAt A s u u' (fB d e):=by
 cases d with
 | non =>
  obtain rfl:=h1
  cases e with
  | non=>
   obtain rfl:=h2
   exact RcAt.none_none
  | bl b=>
   obtain rfl:=h2
   first
    |exact RcAt.none_bool _
    |(have q:=RcAt.none_bool (A:=A) (s:=s) _;simpa[aN,aO,aP,aQ,aR,aL,aJ] using q)
  | int b=>
   obtain⟨t2,rfl⟩:=h2
   first
    |exact RcAt.none_int _ _
    |(have q:=RcAt.none_int (A:=A) (s:=s) _ _;simpa[aN,aO,aP,aQ,aR,aL,aJ] using q)
  | str b=>
   obtain⟨t2,rfl⟩:=h2
   first
    |exact RcAt.none_str _ _
    |(have q:=RcAt.none_str (A:=A) (s:=s) _ _;simpa[aN,aO,aP,aQ,aR,aL,aJ] using q)
  | tup es=>
   obtain⟨p2,ys,jts,rfl,hq2,v2,hp2,r2⟩:=h2
   first
    |exact RcAt.none_tuple hp2 hu
    |(have q:=RcAt.none_tuple (A:=A) (s:=s) hp2 hu;simpa[aN,aO,aP,aQ,aR,aL,aJ] using q)
  | lst es=>
   obtain⟨p2,ys,jts,rfl,hq2,v2,hp2,r2⟩:=h2
   first
    |exact RcAt.none_list hp2 hu
    |(have q:=RcAt.none_list (A:=A) (s:=s) hp2 hu;simpa[aN,aO,aP,aQ,aR,aL,aJ] using q)
 | bl a=>
  obtain rfl:=h1
  cases e with
  | non=>
   obtain rfl:=h2
   first
    |exact RcAt.bool_none _
    |(have q:=RcAt.bool_none (A:=A) (s:=s) _;simpa[aN,aO,aP,aQ,aR,aL,aJ] using q)
  | bl b=>
   obtain rfl:=h2
   first
    |exact RcAt.bool_bool _ _
    |(have q:=RcAt.bool_bool (A:=A) (s:=s) _ _;simpa[aN,aO,aP,aQ,aR,aL,aJ] using q)
  | int b=>
   obtain⟨t2,rfl⟩:=h2
   first
    |exact RcAt.bool_int _ _ _
    |(have q:=RcAt.bool_int (A:=A) (s:=s) _ _ _;simpa[aN,aO,aP,aQ,aR,aL,aJ] using q)
  | str b=>
   obtain⟨t2,rfl⟩:=h2
   first
    |exact RcAt.bool_str _ _ _
    |(have q:=RcAt.bool_str (A:=A) (s:=s) _ _ _;simpa[aN,aO,aP,aQ,aR,aL,aJ] using q)
  | tup es=>
   obtain⟨p2,ys,jts,rfl,hq2,v2,hp2,r2⟩:=h2
   first
    |exact RcAt.bool_tuple _ hp2 hu
    |(have q:=RcAt.bool_tuple (A:=A) (s:=s) _ hp2 hu;simpa[aN,aO,aP,aQ,aR,aL,aJ] using q)
  | lst es=>
   obtain⟨p2,ys,jts,rfl,hq2,v2,hp2,r2⟩:=h2
   first
    |exact RcAt.bool_list _ hp2 hu
    |(have q:=RcAt.bool_list (A:=A) (s:=s) _ hp2 hu;simpa[aN,aO,aP,aQ,aR,aL,aJ] using q)
 | int a=>
  obtain⟨t1,rfl⟩:=h1
  cases e with
  | non=>
   obtain rfl:=h2
   first
    |exact RcAt.int_none _ _
    |(have q:=RcAt.int_none (A:=A) (s:=s) _ _;simpa[aN,aO,aP,aQ,aR,aL,aJ] using q)
  | bl b=>
   obtain rfl:=h2
   first
    |exact RcAt.int_bool _ _ _
    |(have q:=RcAt.int_bool (A:=A) (s:=s) _ _ _;simpa[aN,aO,aP,aQ,aR,aL,aJ] using q)
  | int b=>
   obtain⟨t2,rfl⟩:=h2
   first
    |exact RcAt.int_int _ _ _ _
    |(have q:=RcAt.int_int (A:=A) (s:=s) _ _ _ _;simpa[aN,aO,aP,aQ,aR,aL,aJ] using q)
  | str b=>
   obtain⟨t2,rfl⟩:=h2
   first
    |exact RcAt.int_str _ _ _ _
    |(have q:=RcAt.int_str (A:=A) (s:=s) _ _ _ _;simpa[aN,aO,aP,aQ,aR,aL,aJ] using q)
  | tup es=>
   obtain⟨p2,ys,jts,rfl,hq2,v2,hp2,r2⟩:=h2
   first
    |exact RcAt.int_tuple _ _ hp2 hu
    |(have q:=RcAt.int_tuple (A:=A) (s:=s) _ _ hp2 hu;simpa[aN,aO,aP,aQ,aR,aL,aJ] using q)
  | lst es=>
   obtain⟨p2,ys,jts,rfl,hq2,v2,hp2,r2⟩:=h2
   first
    |exact RcAt.int_list _ _ hp2 hu
    |(have q:=RcAt.int_list (A:=A) (s:=s) _ _ hp2 hu;simpa[aN,aO,aP,aQ,aR,aL,aJ] using q)
 | str a=>
  obtain⟨t1,rfl⟩:=h1
  cases e with
  | non=>
   obtain rfl:=h2
   first
    |exact RcAt.str_none _ _
    |(have q:=RcAt.str_none (A:=A) (s:=s) _ _;simpa[aN,aO,aP,aQ,aR,aL,aJ] using q)
  | bl b=>
   obtain rfl:=h2
   first
    |exact RcAt.str_bool _ _ _
    |(have q:=RcAt.str_bool (A:=A) (s:=s) _ _ _;simpa[aN,aO,aP,aQ,aR,aL,aJ] using q)
  | int b=>
   obtain⟨t2,rfl⟩:=h2
   first
    |exact RcAt.str_int _ _ _ _
    |(have q:=RcAt.str_int (A:=A) (s:=s) _ _ _ _;simpa[aN,aO,aP,aQ,aR,aL,aJ] using q)
  | str b=>
   obtain⟨t2,rfl⟩:=h2
   first
    |exact RcAt.str_str _ _ _ _
    |(have q:=RcAt.str_str (A:=A) (s:=s) _ _ _ _;simpa[aN,aO,aP,aQ,aR,aL,aJ] using q)
  | tup es=>
   obtain⟨p2,ys,jts,rfl,hq2,v2,hp2,r2⟩:=h2
   first
    |exact RcAt.str_tuple _ _ hp2 hu
    |(have q:=RcAt.str_tuple (A:=A) (s:=s) _ _ hp2 hu;simpa[aN,aO,aP,aQ,aR,aL,aJ] using q)
  | lst es=>
   obtain⟨p2,ys,jts,rfl,hq2,v2,hp2,r2⟩:=h2
   first
    |exact RcAt.str_list _ _ hp2 hu
    |(have q:=RcAt.str_list (A:=A) (s:=s) _ _ hp2 hu;simpa[aN,aO,aP,aQ,aR,aL,aJ] using q)
 | tup ds=>
  obtain⟨p1,xs,its,rfl,hq1,v1,hp1,r1⟩:=h1
  cases e with
  | non=>
   obtain rfl:=h2
   first
    |exact RcAt.tuple_none hp1 hu
    |(have q:=RcAt.tuple_none (A:=A) (s:=s) hp1 hu;simpa[aN,aO,aP,aQ,aR,aL,aJ] using q)
  | bl b=>
   obtain rfl:=h2
   first
    |exact RcAt.tuple_bool _ hp1 hu
    |(have q:=RcAt.tuple_bool (A:=A) (s:=s) _ hp1 hu;simpa[aN,aO,aP,aQ,aR,aL,aJ] using q)
  | int b=>
   obtain⟨t2,rfl⟩:=h2
   first
    |exact RcAt.tuple_int _ _ hp1 hu
    |(have q:=RcAt.tuple_int (A:=A) (s:=s) _ _ hp1 hu;simpa[aN,aO,aP,aQ,aR,aL,aJ] using q)
  | str b=>
   obtain⟨t2,rfl⟩:=h2
   first
    |exact RcAt.tuple_str _ _ hp1 hu
    |(have q:=RcAt.tuple_str (A:=A) (s:=s) _ _ hp1 hu;simpa[aN,aO,aP,aQ,aR,aL,aJ] using q)
  | tup es=>
   obtain⟨p2,ys,jts,rfl,hq2,v2,hp2,r2⟩:=h2
   have q:=RcAt.tuples hp1 hp2 hu (qU r1 r2 v1 v2 ih)
   simp only[z1c] at q
   rw[Ju (r1.length.trans v1.length) (r2.length.trans v2.length)] at q
   rw[aL];exact q
  | lst es=>
   obtain⟨p2,ys,jts,rfl,hq2,v2,hp2,r2⟩:=h2
   first
    |exact RcAt.tuple_list hp1 hp2 hu
    |(have q:=RcAt.tuple_list (A:=A) (s:=s) hp1 hp2 hu;simpa[aN,aO,aP,aQ,aR,aL,aJ] using q)
 | lst ds=>
  obtain⟨p1,xs,its,rfl,hq1,v1,hp1,r1⟩:=h1
  cases e with
  | non=>
   obtain rfl:=h2
   first
    |exact RcAt.list_none hp1 hu
    |(have q:=RcAt.list_none (A:=A) (s:=s) hp1 hu;simpa[aN,aO,aP,aQ,aR,aL,aJ] using q)
  | bl b=>
   obtain rfl:=h2
   first
    |exact RcAt.list_bool _ hp1 hu
    |(have q:=RcAt.list_bool (A:=A) (s:=s) _ hp1 hu;simpa[aN,aO,aP,aQ,aR,aL,aJ] using q)
  | int b=>
   obtain⟨t2,rfl⟩:=h2
   first
    |exact RcAt.list_int _ _ hp1 hu
    |(have q:=RcAt.list_int (A:=A) (s:=s) _ _ hp1 hu;simpa[aN,aO,aP,aQ,aR,aL,aJ] using q)
  | str b=>
   obtain⟨t2,rfl⟩:=h2
   first
    |exact RcAt.list_str _ _ hp1 hu
    |(have q:=RcAt.list_str (A:=A) (s:=s) _ _ hp1 hu;simpa[aN,aO,aP,aQ,aR,aL,aJ] using q)
  | tup es=>
   obtain⟨p2,ys,jts,rfl,hq2,v2,hp2,r2⟩:=h2
   first
    |exact RcAt.list_tuple hp1 hp2 hu
    |(have q:=RcAt.list_tuple (A:=A) (s:=s) hp1 hp2 hu;simpa[aN,aO,aP,aQ,aR,aL,aJ] using q)
  | lst es=>
   obtain⟨p2,ys,jts,rfl,hq2,v2,hp2,r2⟩:=h2
   by_cases hz:ds.length=es.length
   ·have q:=RcAt.lists hp1 hp2 (by simp only[z1c];rw[<-v1.length,<-v2.length,<-r1.length,<-r2.length];exact hz) hu (qU r1 r2 v1 v2 ih)
    rw[z1c,<-v1.length,<-r1.length,<-wF hz] at q
    rw[aJ];exact q
   ·rw[aJ,wD hz]
    exact RcAt.lists_lengths hp1 hp2 (by simp only[z1c];rw[<-v1.length,<-v2.length,<-r1.length,<-r2.length];simpa using hz) hu
theorem afi (I:Inv X pins σ H s) {A:Around} (hu:A.units < cLine) {d e:D} {u u':Value} (h1:Lk X O H s d u) (h2:Lk X O' H s e u')
  (ih:∀c∈(match d with | .tup ds=>ds | .lst ds=>ds |_=>[]),∀(e:D) (v w:V) (u u':Value),Rep X.K O H c v->Rep X.K O' H e w->RelV v u->RelV w u'->EqAt A.in1 s u u' (fB c e)):RcNeAt A s u u' (!fB d e):=by
 cases d with
 | non =>
  obtain rfl:=h1
  cases e with
  | non=>
   obtain rfl:=h2
   exact RcNeAt.none_none
  | bl b=>
   obtain rfl:=h2
   first
    |exact RcNeAt.none_bool _
    |(have q:=RcNeAt.none_bool (A:=A) (s:=s) _;simpa[aN,aO,aP,aQ,aR,aL,aJ] using q)
  | int b=>
   obtain⟨t2,rfl⟩:=h2
   first
    |exact RcNeAt.none_int _ _
    |(have q:=RcNeAt.none_int (A:=A) (s:=s) _ _;simpa[aN,aO,aP,aQ,aR,aL,aJ] using q)
  | str b=>
   obtain⟨t2,rfl⟩:=h2
   first
    |exact RcNeAt.none_str _ _
    |(have q:=RcNeAt.none_str (A:=A) (s:=s) _ _;simpa[aN,aO,aP,aQ,aR,aL,aJ] using q)
  | tup es=>
   obtain⟨p2,ys,jts,rfl,hq2,v2,hp2,r2⟩:=h2
   first
    |exact RcNeAt.none_tuple hp2 hu
    |(have q:=RcNeAt.none_tuple (A:=A) (s:=s) hp2 hu;simpa[aN,aO,aP,aQ,aR,aL,aJ] using q)
  | lst es=>
   obtain⟨p2,ys,jts,rfl,hq2,v2,hp2,r2⟩:=h2
   first
    |exact RcNeAt.none_list hp2 hu
    |(have q:=RcNeAt.none_list (A:=A) (s:=s) hp2 hu;simpa[aN,aO,aP,aQ,aR,aL,aJ] using q)
 | bl a=>
  obtain rfl:=h1
  cases e with
  | non=>
   obtain rfl:=h2
   first
    |exact RcNeAt.bool_none _
    |(have q:=RcNeAt.bool_none (A:=A) (s:=s) _;simpa[aN,aO,aP,aQ,aR,aL,aJ] using q)
  | bl b=>
   obtain rfl:=h2
   first
    |exact RcNeAt.bool_bool _ _
    |(have q:=RcNeAt.bool_bool (A:=A) (s:=s) _ _;simpa[aN,aO,aP,aQ,aR,aL,aJ] using q)
  | int b=>
   obtain⟨t2,rfl⟩:=h2
   first
    |exact RcNeAt.bool_int _ _ _
    |(have q:=RcNeAt.bool_int (A:=A) (s:=s) _ _ _;simpa[aN,aO,aP,aQ,aR,aL,aJ] using q)
  | str b=>
   obtain⟨t2,rfl⟩:=h2
   first
    |exact RcNeAt.bool_str _ _ _
    |(have q:=RcNeAt.bool_str (A:=A) (s:=s) _ _ _;simpa[aN,aO,aP,aQ,aR,aL,aJ] using q)
  | tup es=>
   obtain⟨p2,ys,jts,rfl,hq2,v2,hp2,r2⟩:=h2
   first
    |exact RcNeAt.bool_tuple _ hp2 hu
    |(have q:=RcNeAt.bool_tuple (A:=A) (s:=s) _ hp2 hu;simpa[aN,aO,aP,aQ,aR,aL,aJ] using q)
  | lst es=>
   obtain⟨p2,ys,jts,rfl,hq2,v2,hp2,r2⟩:=h2
   first
    |exact RcNeAt.bool_list _ hp2 hu
    |(have q:=RcNeAt.bool_list (A:=A) (s:=s) _ hp2 hu;simpa[aN,aO,aP,aQ,aR,aL,aJ] using q)
 | int a=>
  obtain⟨t1,rfl⟩:=h1
  cases e with
  | non=>
   obtain rfl:=h2
   first
    |exact RcNeAt.int_none _ _
    |(have q:=RcNeAt.int_none (A:=A) (s:=s) _ _;simpa[aN,aO,aP,aQ,aR,aL,aJ] using q)
  | bl b=>
   obtain rfl:=h2
   first
    |exact RcNeAt.int_bool _ _ _
    |(have q:=RcNeAt.int_bool (A:=A) (s:=s) _ _ _;simpa[aN,aO,aP,aQ,aR,aL,aJ] using q)
  | int b=>
   obtain⟨t2,rfl⟩:=h2
   first
    |exact RcNeAt.int_int _ _ _ _
    |(have q:=RcNeAt.int_int (A:=A) (s:=s) _ _ _ _;simpa[aN,aO,aP,aQ,aR,aL,aJ] using q)
  | str b=>
   obtain⟨t2,rfl⟩:=h2
   first
    |exact RcNeAt.int_str _ _ _ _
    |(have q:=RcNeAt.int_str (A:=A) (s:=s) _ _ _ _;simpa[aN,aO,aP,aQ,aR,aL,aJ] using q)
  | tup es=>
   obtain⟨p2,ys,jts,rfl,hq2,v2,hp2,r2⟩:=h2
   first
    |exact RcNeAt.int_tuple _ _ hp2 hu
    |(have q:=RcNeAt.int_tuple (A:=A) (s:=s) _ _ hp2 hu;simpa[aN,aO,aP,aQ,aR,aL,aJ] using q)
  | lst es=>
   obtain⟨p2,ys,jts,rfl,hq2,v2,hp2,r2⟩:=h2
   first
    |exact RcNeAt.int_list _ _ hp2 hu
    |(have q:=RcNeAt.int_list (A:=A) (s:=s) _ _ hp2 hu;simpa[aN,aO,aP,aQ,aR,aL,aJ] using q)
 | str a=>
  obtain⟨t1,rfl⟩:=h1
  cases e with
  | non=>
   obtain rfl:=h2
   first
    |exact RcNeAt.str_none _ _
    |(have q:=RcNeAt.str_none (A:=A) (s:=s) _ _;simpa[aN,aO,aP,aQ,aR,aL,aJ] using q)
  | bl b=>
   obtain rfl:=h2
   first
    |exact RcNeAt.str_bool _ _ _
    |(have q:=RcNeAt.str_bool (A:=A) (s:=s) _ _ _;simpa[aN,aO,aP,aQ,aR,aL,aJ] using q)
  | int b=>
   obtain⟨t2,rfl⟩:=h2
   first
    |exact RcNeAt.str_int _ _ _ _
    |(have q:=RcNeAt.str_int (A:=A) (s:=s) _ _ _ _;simpa[aN,aO,aP,aQ,aR,aL,aJ] using q)
  | str b=>
   obtain⟨t2,rfl⟩:=h2
   first
    |exact RcNeAt.str_str _ _ _ _
    |(have q:=RcNeAt.str_str (A:=A) (s:=s) _ _ _ _;simpa[aN,aO,aP,aQ,aR,aL,aJ] using q)
  | tup es=>
   obtain⟨p2,ys,jts,rfl,hq2,v2,hp2,r2⟩:=h2
   first
    |exact RcNeAt.str_tuple _ _ hp2 hu
    |(have q:=RcNeAt.str_tuple (A:=A) (s:=s) _ _ hp2 hu;simpa[aN,aO,aP,aQ,aR,aL,aJ] using q)
  | lst es=>
   obtain⟨p2,ys,jts,rfl,hq2,v2,hp2,r2⟩:=h2
   first
    |exact RcNeAt.str_list _ _ hp2 hu
    |(have q:=RcNeAt.str_list (A:=A) (s:=s) _ _ hp2 hu;simpa[aN,aO,aP,aQ,aR,aL,aJ] using q)
 | tup ds=>
  obtain⟨p1,xs,its,rfl,hq1,v1,hp1,r1⟩:=h1
  cases e with
  | non=>
   obtain rfl:=h2
   first
    |exact RcNeAt.tuple_none hp1 hu
    |(have q:=RcNeAt.tuple_none (A:=A) (s:=s) hp1 hu;simpa[aN,aO,aP,aQ,aR,aL,aJ] using q)
  | bl b=>
   obtain rfl:=h2
   first
    |exact RcNeAt.tuple_bool _ hp1 hu
    |(have q:=RcNeAt.tuple_bool (A:=A) (s:=s) _ hp1 hu;simpa[aN,aO,aP,aQ,aR,aL,aJ] using q)
  | int b=>
   obtain⟨t2,rfl⟩:=h2
   first
    |exact RcNeAt.tuple_int _ _ hp1 hu
    |(have q:=RcNeAt.tuple_int (A:=A) (s:=s) _ _ hp1 hu;simpa[aN,aO,aP,aQ,aR,aL,aJ] using q)
  | str b=>
   obtain⟨t2,rfl⟩:=h2
   first
    |exact RcNeAt.tuple_str _ _ hp1 hu
    |(have q:=RcNeAt.tuple_str (A:=A) (s:=s) _ _ hp1 hu;simpa[aN,aO,aP,aQ,aR,aL,aJ] using q)
  | tup es=>
   obtain⟨p2,ys,jts,rfl,hq2,v2,hp2,r2⟩:=h2
   have q:=RcNeAt.tuples hp1 hp2 hu (qU r1 r2 v1 v2 ih)
   simp only[z1c] at q
   rw[Ju (r1.length.trans v1.length) (r2.length.trans v2.length)] at q
   rw[aL];exact q
  | lst es=>
   obtain⟨p2,ys,jts,rfl,hq2,v2,hp2,r2⟩:=h2
   first
    |exact RcNeAt.tuple_list hp1 hp2 hu
    |(have q:=RcNeAt.tuple_list (A:=A) (s:=s) hp1 hp2 hu;simpa[aN,aO,aP,aQ,aR,aL,aJ] using q)
 | lst ds=>
  obtain⟨p1,xs,its,rfl,hq1,v1,hp1,r1⟩:=h1
  cases e with
  | non=>
   obtain rfl:=h2
   first
    |exact RcNeAt.list_none hp1 hu
    |(have q:=RcNeAt.list_none (A:=A) (s:=s) hp1 hu;simpa[aN,aO,aP,aQ,aR,aL,aJ] using q)
  | bl b=>
   obtain rfl:=h2
   first
    |exact RcNeAt.list_bool _ hp1 hu
    |(have q:=RcNeAt.list_bool (A:=A) (s:=s) _ hp1 hu;simpa[aN,aO,aP,aQ,aR,aL,aJ] using q)
  | int b=>
   obtain⟨t2,rfl⟩:=h2
   first
    |exact RcNeAt.list_int _ _ hp1 hu
    |(have q:=RcNeAt.list_int (A:=A) (s:=s) _ _ hp1 hu;simpa[aN,aO,aP,aQ,aR,aL,aJ] using q)
  | str b=>
   obtain⟨t2,rfl⟩:=h2
   first
    |exact RcNeAt.list_str _ _ hp1 hu
    |(have q:=RcNeAt.list_str (A:=A) (s:=s) _ _ hp1 hu;simpa[aN,aO,aP,aQ,aR,aL,aJ] using q)
  | tup es=>
   obtain⟨p2,ys,jts,rfl,hq2,v2,hp2,r2⟩:=h2
   first
    |exact RcNeAt.list_tuple hp1 hp2 hu
    |(have q:=RcNeAt.list_tuple (A:=A) (s:=s) hp1 hp2 hu;simpa[aN,aO,aP,aQ,aR,aL,aJ] using q)
  | lst es=>
   obtain⟨p2,ys,jts,rfl,hq2,v2,hp2,r2⟩:=h2
   by_cases hz:ds.length=es.length
   ·have q:=RcNeAt.lists hp1 hp2 (by simp only[z1c];rw[<-v1.length,<-v2.length,<-r1.length,<-r2.length];exact hz) hu (qU r1 r2 v1 v2 ih)
    rw[z1c,<-v1.length,<-r1.length,<-wF hz] at q
    rw[aJ];exact q
   ·rw[aJ,wD hz]
    exact RcNeAt.lists_lengths hp1 hp2 (by simp only[z1c];rw[<-v1.length,<-v2.length,<-r1.length,<-r2.length];simpa using hz) hu
theorem Jv (I:Inv X pins σ H s):∀(n:Nat) (A:Around) (d:D),dep d<=n->A.units+n < cLine->∀(e:D) (v w:V) (u u':Value),Rep X.K O H d v->Rep X.K O' H e w->RelV v u->RelV w u'->EqAt A s u u' (fB d e):=by
 intro n
 induction n with
 | zero=>
  intro A d hd hu e v w u u' r1 r2 q1 q2
  refine Uv I (by assumption) (yF I r1 q1) (yF I r2 q2) λ c hc=>?_
  cases d with
  |tup ds=>rw[jF] at hd;exact (aiw hd).elim
  |lst ds=>rw[jG] at hd;exact (aiw hd).elim
  |_=>simp at hc
 | succ n ihn=>
  intro A d hd hu e v w u u' r1 r2 q1 q2
  refine Uv I (by exact amn hu) (yF I r1 q1) (yF I r2 q2) λ c hc=>?_
  have hc':dep c<=n:=by
   cases d with
   |tup ds=>rw[jF] at hd;have:=qT (ds:=ds) hc;exact aix hd this
   |lst ds=>rw[jG] at hd;have:=qT (ds:=ds) hc;exact aix hd this
   |_=>simp at hc
  exact ihn A.in1 c hc' (by show A.units+1+n < cLine;exact amo hu)
end
noncomputable def qb (d e:D):R D:=if dep d<=40 then .ok (.bl (fB d e)) else .bad
noncomputable def oF (d e:D):R D:=if dep d<=40 then .ok (.bl (!fB d e)) else .bad
section
variable {X:Cx}
theorem ai0 (hu:X.A.units+60 < cLine):OpR X (compareOp .Eq) (λ x y H Q=>∃O O' d e,Rep X.K O H d x/\Rep X.K O' H e y/\dep d<=40/\Q (.bl (fB d e)) H):=by
 intro pins s σ H x y v u Q I rx ry h
 refine bc λ zQ=>?_
 obtain⟨O,O',d,e,r1,r2,hd,q⟩:=h
 apply zQ;clear zQ
 refine afh I (show X.A.units < cLine by exact aiy hu) (yF I r1 rx) (yF I r2 ry) (λ c hc=>?_) X.prog X.w X.xe _ ⟨.bl _,H,I,rfl,q⟩
 have hc':dep c<=40:=by
  refine bc λ zQ=>?_
  cases d with
  |tup ds=>apply zQ;clear zQ;rw[jF] at hd;have:=qT (ds:=ds) hc;exact aay hd this
  |lst ds=>apply zQ;clear zQ;rw[jG] at hd;have:=qT (ds:=ds) hc;exact aay hd this
  |_=>apply zQ;clear zQ;simp at hc
 exact Jv I 40 X.A.in1 c hc' (by show X.A.units+1+40 < cLine;exact aiz hu)
theorem ai1 (hu:X.A.units+60 < cLine):OpR X (compareOp .NotEq) (λ x y H Q=>∃O O' d e,Rep X.K O H d x/\Rep X.K O' H e y/\dep d<=40/\Q (.bl (!fB d e)) H):=by
 intro pins s σ H x y v u Q I rx ry h
 refine bc λ zQ=>?_
 obtain⟨O,O',d,e,r1,r2,hd,q⟩:=h
 apply zQ;clear zQ
 refine afi I (show X.A.units < cLine by exact aiy hu) (yF I r1 rx) (yF I r2 ry) (λ c hc=>?_) X.prog X.w X.xe _ ⟨.bl _,H,I,rfl,q⟩
 have hc':dep c<=40:=by
  refine bc λ zQ=>?_
  cases d with
  |tup ds=>apply zQ;clear zQ;rw[jF] at hd;have:=qT (ds:=ds) hc;exact aay hd this
  |lst ds=>apply zQ;clear zQ;rw[jG] at hd;have:=qT (ds:=ds) hc;exact aay hd this
  |_=>apply zQ;clear zQ;simp at hc
 exact Jv I 40 X.A.in1 c hc' (by show X.A.units+1+40 < cLine;exact aiz hu)
theorem yG (hu:X.A.units+60 < cLine):lD X (compareOp .Eq) qb:=by
 refine⟨_,ai0 hu,λ ρ O σ H Q x y dx dy j rx ry h=>?_⟩
 unfold qb at h
 by_cases hd:dep dx<=40
 ·rw[if_pos hd] at h;exact⟨O,O,dx,dy,rx,ry,hd,fin h (gY _)⟩
 ·rw[if_neg hd] at h;exact h.elim
theorem sS (hu:X.A.units+60 < cLine):lD X (compareOp .NotEq) oF:=by
 refine⟨_,ai1 hu,λ ρ O σ H Q x y dx dy j rx ry h=>?_⟩
 unfold oF at h
 by_cases hd:dep dx<=40
 ·rw[if_pos hd] at h;exact⟨O,O,dx,dy,rx,ry,hd,fin h (gY _)⟩
 ·rw[if_neg hd] at h;exact h.elim
end
end Pu
namespace Pu
open PySem PySem.Spec L2
open PyProof.Rows hiding St
section
variable {prog:Program} {w:World} {A:Around} {E:Value->Shared->Prop} {s:Shared}
end
section
variable {X:Cx} {e:Expr} {te:TE} {pos p2 p3 p4:Pos} {j:Nat} {f:aq->R D}
theorem Vals.rev {xs:List V} {us:List Value} (h:Vals xs us):Vals xs.reverse us.reverse:=by
 induction h with
 |nil=>exact .nil
 | cons r _ ih=>
  simp only[List.reverse_cons]
  exact ih.append (.cons r .nil)
noncomputable def anp:D->R D
 | .tup ds=> .ok (.tup ds.reverse)
 |_=> .bad
noncomputable def jg:D->D->R D
 | .int i,.int j=> .ok (.int (i+j))
 | .tup xs,.tup ys=>if 0 < xs.length/\xs.length+ys.length<=1000000 then .ok (.tup (xs++ys)) else .bad
 |_,_=> .bad
set_option tactic.hygienic true in
theorem tM:lD X (binaryOp .Add) jg:=by
 refine⟨_,OpR.or op_add op_catT,λ ρ O σ H Q x y dx dy j0 rx ry h=>?_⟩
 cases dx <;> cases dy <;> first
  |exact h.elim
  |skip
 ·rename_i i j
  exact .inl ⟨i,j,rx.int,ry.int,fin h (cO _)⟩
 ·rename_i xs ys
  have h:good X (rD X) O (if 0 < xs.length/\xs.length+ys.length<=1000000 then .ok (.tup (xs++ys)) else .bad) σ H Q:=h
  by_cases hc:0 < xs.length/\xs.length+ys.length<=1000000
  ·rw[if_pos hc] at h
   obtain⟨a,us,rfl,ha,r1⟩:=rx.tup
   obtain⟨b,ws,rfl,hb,r2⟩:=ry.tup
   refine .inr ⟨a,b,us,ws,rfl,rfl,ha,hb,λ z=>?_,?_,λ z=>?_,λ z l hl=>?_⟩
   ·have h1:=r1.length
    have h2:=hc.1
    rw[z] at h1
    rw[h1] at h2
    exact Nat.lt_irrefl _ h2
   ·rw[<-r1.length,<-r2.length];exact z0b hc.2 gk
   ·subst z
    have:ys=[]:=List.eq_nil_of_length_eq_zero r2.length
    subst this
    rw[List.append_nil] at h
    exact fin h (jM ha r1)
   ·exact h _ _ (Same.upd hl) (Rep.vP hl (r1.append r2))
  ·rw[if_neg hc] at h;exact h.elim
end
section
variable {K:PySem.W.Frag} {O:Addr->Prop} {H:Hp}
end
section
variable {X:Cx} {e e1 e2:Expr} {f g:aq->R D} {pos:Pos}
end
end Pu
namespace Pu
open PySem PySem.W PyProof.Rows
noncomputable def Sat {α:Type} (n:Nat) (lt:Nat->Nat->Bool):KasT α->(α->Prop)->Prop
 | .ret a,Q=>Q a
 | .ask i j k,Q=>i < n/\j < n/\Sat n lt (k (lt i j)) Q
section
variable {n:Nat} {lt:Nat->Nat->Bool}
theorem Sat.bind {α β:Type} {f:α->KasT β} {Q:β->Prop}:∀{t:KasT α},Sat n lt t (λ a=>Sat n lt (f a) Q)->Sat n lt (t.bind f) Q
 | .ret _,h=>h
 | .ask i j k,h=>⟨h.1,h.2.1,Sat.bind h.2.2⟩
theorem Sat.mono {α:Type} {Q Q':α->Prop} (w:∀a,Q a->Q' a):∀{t:KasT α},Sat n lt t Q->Sat n lt t Q'
 | .ret _,h=>w _ h
 | .ask _ _ _,h=>⟨h.1,h.2.1,Sat.mono w h.2.2⟩
theorem Sat.wp {α:Type} {cmp:Nat->Nat->(Bool->Shared->Prop)->Shared->Prop} {s:Shared} {P:α->Prop} {Q:α->Shared->Prop} (hc:∀i j C,i < n->j < n->C (lt i j) s->cmp i j C s) (hQ:∀a,P a->Q a s):
  ∀{t:KasT α},Sat n lt t P->t.kasWp cmp Q s
 | .ret _,h=>hQ _ h
 | .ask i j k,h=>hc i j _ h.1 h.2.1 (Sat.wp hc hQ h.2.2)
structure Ord (n:Nat) (lt:Nat->Nat->Bool):Prop where
 tr:∀a b c,a < n->b < n->c < n->lt a b=true->lt b c=true->lt a c=true
 tot:∀a b,a < n->b < n->a≠b->lt a b=false->lt b a=true
structure Pm (n:Nat) (p:Array Nat):Prop where
 size:p.size=n
 perm:p.toList.Perm (List.range n)
theorem Pm.bd {p:Array Nat} (h:Pm n p) {i:Nat} (hi:i < n):p.getD i 0 < n:=by
 have hs:i < p.size:=by rw[h.size];exact hi
 have:p.getD i 0=p[i]:=by simp[Array.getD,hs]
 rw[this]
 have hm:p[i]∈p.toList:=by simp
 exact z2e (h.perm.mem_iff.mp hm)
theorem Pm.ne {p:Array Nat} (h:Pm n p) {i j:Nat} (hi:i < n) (hj:j < n) (hij:i≠j):p.getD i 0≠p.getD j 0:=by
 have hs:i < p.size:=by rw[h.size];exact hi
 have hs2:j < p.size:=by rw[h.size];exact hj
 have e1:p.getD i 0=p.toList[i]'(by simpa using hs):=by simp[Array.getD,hs]
 have e2:p.getD j 0=p.toList[j]'(by simpa using hs2):=by simp[Array.getD,hs2]
 rw[e1,e2]
 have nd:p.toList.Nodup:=h.perm.nodup_iff.mpr List.nodup_range
 intro z
 exact hij ((List.getElem_inj nd).mp z)
theorem Pm.of {p q:Array Nat} (h:Pm n p) (w:q.Perm p):Pm n q:=
 ⟨by rw[<-h.size];exact w.size_eq,(Array.perm_iff_toList_perm.mp w).trans h.perm⟩
noncomputable def S (lt:Nat->Nat->Bool) (p:Array Nat) (k:Nat):Prop:=∀i j,i < j->j < k->lt (p.getD i 0) (p.getD j 0)=true
noncomputable def De (lt:Nat->Nat->Bool) (p:Array Nat) (k:Nat):Prop:=∀i j,i < j->j < k->lt (p.getD j 0) (p.getD i 0)=true
theorem S.one {p:Array Nat}:S lt p 1:=λ i j h1 h2=>by exact (aiA h2 h1).elim
theorem S.ext (o:Ord n lt) {p:Array Nat} (h:Pm n p) {a:Nat} (ha:1<=a) (hn:a < n) (s:S lt p a) (e:lt (p.getD (a - 1) 0) (p.getD a 0)=true):S lt p (a+1):=λ i j h1 h2=>by
 by_cases hj:j < a
 ·exact s i j h1 hj
 ·have ej:j=a:=by exact ae3 h2 hj
  subst ej
  by_cases hi:i=j - 1
  ·rw[hi];exact e
  ·exact o.tr _ _ _ (h.bd (by exact Nat.lt_trans h1 hn)) (h.bd (by exact Ug hn)) (h.bd hn) (s i (j - 1) (by exact aiC h1 hi) (by exact aiB h1)) e
theorem De.ext (o:Ord n lt) {p:Array Nat} (h:Pm n p) {a:Nat} (ha:1<=a) (hn:a < n) (s:De lt p a) (e:lt (p.getD a 0) (p.getD (a - 1) 0)=true):De lt p (a+1):=λ i j h1 h2=>by
 by_cases hj:j < a
 ·exact s i j h1 hj
 ·have ej:j=a:=by exact ae3 h2 hj
  subst ej
  by_cases hi:i=j - 1
  ·rw[hi];exact e
  ·exact o.tr _ _ _ (h.bd hn) (h.bd (by exact Ug hn)) (h.bd (by exact Nat.lt_trans h1 hn)) e (s i (j - 1) (by exact aiC h1 hi) (by exact aiB h1))
theorem NP (o:Ord n lt) {p:Array Nat} (h:Pm n p):∀(f a:Nat),1<=a->a+f<=n->S lt p a->Sat n lt (kas_asc p f a) (λ m=>a<=m/\m<=a+f/\S lt p m/\(m < a+f->lt (p.getD m 0) (p.getD (m - 1) 0)=true))
 |0,a,h1,h2,s=>⟨z0g _,z0g _,s,λ z=>absurd z (by exact Nat.lt_irrefl _)⟩
 | f +1,a,h1,h2,s=>by
  refine⟨h.bd (by exact vY h2),h.bd (by exact Jo h2),?_⟩
  cases e:lt (p.getD a 0) (p.getD (a - 1) 0) with
  |true=>exact⟨z0g _,by exact Nat.le_add_right _ _,s,λ Z=>e⟩
  | false=>
   have e':=o.tot _ _ (h.bd (by exact vY h2)) (h.bd (by exact Jo h2)) (h.ne (i:=a) (j:=a - 1) (by exact vY h2) (by exact Jo h2) (by exact aiD h1)) e
   show Sat n lt (kas_asc p f (a+1)) _
   refine Sat.mono (λ m ⟨m1,m2,m3,m4⟩=>⟨by exact z0e m1,by exact ae5 m2,m3,λ z=>m4 (by exact aiE z)⟩) (NP o h f (a+1) (by exact Nat.succ_pos _) (by exact ae4 h2) (S.ext o h h1 (by exact vY h2) s e'))
theorem Uw (o:Ord n lt) {p:Array Nat} (h:Pm n p):∀(f a:Nat),1<=a->a+f<=n->De lt p a->Sat n lt (kas_desc f p a 0) (λ r=>r.1=p/\r.2.2=0/\a<=r.2.1/\r.2.1<=a+f/\De lt p r.2.1)
 |0,a,h1,h2,s=>⟨rfl,rfl,z0g _,z0g _,s⟩
 | f +1,a,h1,h2,s=>by
  refine⟨h.bd (by exact vY h2),h.bd (by exact Jo h2),?_⟩
  cases e:lt (p.getD a 0) (p.getD (a - 1) 0) with
  | true=>
   show Sat n lt (kas_desc f p (a+1) 0) _
   exact Sat.mono (λ r ⟨m1,m2,m3,m4,m5⟩=>⟨m1,m2,by exact z0e m3,by exact ae5 m4,m5⟩) (Uw o h f (a+1) (by exact Nat.succ_pos _) (by exact ae4 h2) (De.ext o h h1 (by exact vY h2) s e))
  | false=>
   have e':=o.tot _ _ (h.bd (by exact vY h2)) (h.bd (by exact Jo h2)) (h.ne (i:=a) (j:=a - 1) (by exact vY h2) (by exact Jo h2) (by exact aiD h1)) e
   refine⟨h.bd (by exact Jo h2),h.bd (by exact vY h2),?_⟩
   rw[e']
   exact⟨rfl,rfl,z0g _,Nat.le_add_right _ _,s⟩
theorem HJ {p q:Array Nat} {i j:Nat} (h:p[i]?=q[j]?):p.getD i 0=q.getD j 0:=by
 rw[Array.getD_eq_getD_getElem?,Array.getD_eq_getD_getElem?,h]
theorem adb (o:Ord n lt) {p:Array Nat} (h:Pm n p) {m:Nat} (h1:1<=m) (h2:m<=n) (s:De lt p m):Sat n lt (kas_tail3 m n p) (λ r=>Pm n r.2/\1<=r.1/\r.1<=n/\S lt r.2 r.1):=by
 have hq:Pm n (kas_rev p 0 m):=h.of (mirror_perm _ _ _ _)
 have hs:S lt (kas_rev p 0 m) m:=λ i j hij hj=>by
  have g:∀k,k < m->(kas_rev p 0 m).getD k 0=p.getD (m - 1 - k) 0:=λ k hk=>by
   apply HJ
   show (mirror p 0 m ((m - 0) / 2))[k]?=_
   rw[getElem?_mirror_all (by rw[h.size];exact h2),if_pos ⟨by exact Nat.zero_le _,hk⟩]
   congr 1;exact amq
  rw[g i (by exact Nat.lt_trans hij hj),g j hj]
  exact s (m - 1 - j) (m - 1 - i) (by exact ams hj hij) (by exact amr h1)
 exact Sat.bind (Sat.mono (λ k ⟨k1,k2,k3,_⟩=>⟨hq,by exact z0d h1 k1,by exact amt k2 h2,k3⟩) (NP o hq (n - m) m h1 (by exact aiF h2) hs))
theorem ade (o:Ord n lt) {p:Array Nat} (h:Pm n p) (hn:1<=n):Sat n lt (kas_count n p) (λ r=>Pm n r.2/\1<=r.1/\r.1<=n/\S lt r.2 r.1):=by
 refine Sat.bind (Sat.mono (λ m ⟨m1,m2,m3,m4⟩=>?_) (NP o h (n - 1) 1 (z0g _) (by exact amu hn) S.one))
 by_cases e:m=n
 ·rw[if_pos (by simp[e])]
  exact⟨h,m1,by exact z0f e,m3⟩
 ·rw[if_neg (by simp[e])]
  by_cases hm:m > 1
  ·rw[if_pos hm]
   refine⟨h.bd (by assumption),h.bd (by exact amv hn m2),?_⟩
   rw[m3 0 (m - 1) (by exact amw hm) (by exact aiG m1)]
   exact⟨h,m1,by exact amx hn m2,m3⟩
  ·rw[if_neg hm]
   have em:m=1:=by exact amy m1 hm
   subst em
   have e0:=m4 (by exact amA hn e)
   have d2:De lt p 2:=De.ext o h (a:=1) (z0g _) (by exact z0h hn e) (λ i j a1 a2=>by exact (aiA a2 a1).elim) e0
   refine Sat.bind (Sat.mono (λ r ⟨r1,r2,r3,r4,r5⟩=>?_) (Uw o h (n - (1+1)) (1+1) (by exact Nat.succ_pos _) (by exact amB hn e) d2))
   rw[if_neg (by exact amC r2),r1]
   exact adb o h (by exact z0e r3) (by exact amD hn r4 e) r5
theorem Ef (o:Ord n lt) {p:Array Nat} (h:Pm n p) {k:Nat} (hk:k < n) (s:S lt p k):∀(f l r:Nat),l<=r->r<=k->r - l<=f->(∀i,i < l->lt (p.getD i 0) (p.getD k 0)=true)->(∀i,r<=i->i < k->lt (p.getD k 0) (p.getD i 0)=true)->
  Sat n lt (kas_place p k f l r) (λ m=>m<=k/\(∀i,i < m->lt (p.getD i 0) (p.getD k 0)=true)/\∀i,m<=i->i < k->lt (p.getD k 0) (p.getD i 0)=true)
 |0,l,r,h1,h2,h3,hl,hr=>⟨by exact z0b h1 h2,hl,λ i a b=>hr i (by exact amE h3 a) b⟩
 | f + 1,l,r,h1,h2,h3,hl,hr=>by
  unfold kas_place
  by_cases hlr:l>=r
  ·rw[if_pos hlr]
   exact⟨by exact z0b h1 h2,hl,λ i a b=>hr i (by exact z0b hlr a) b⟩
  ·rw[if_neg hlr]
   have hm:(l+r) / 2 < k:=by exact amF h2 hlr
   refine⟨h.bd hk,h.bd (by exact Nat.lt_trans hm hk),?_⟩
   cases e:lt (p.getD k 0) (p.getD ((l+r) / 2) 0) with
   | true=>
    refine Ef o h hk s f l ((l+r) / 2) (by exact ae6 h1) (by exact z0e hm) (by exact amG h3) hl λ i a b=>?_
    by_cases hi:i=(l+r) / 2
    ·rw[hi];exact e
    ·exact o.tr _ _ _ (h.bd hk) (h.bd (by exact aiH h1 h2 hk)) (h.bd (by exact amI b hk)) e (s _ _ (by exact amH a hi) b)
   | false=>
    have e':=o.tot _ _ (h.bd hk) (h.bd (by exact Nat.lt_trans hm hk)) (h.ne (i:=k) (j:=(l+r) / 2) hk (by exact Nat.lt_trans hm hk) (by exact Nat.ne_of_gt hm)) e
    refine Ef o h hk s f ((l+r) / 2+1) r (by exact amK hlr) h2 (by exact amJ h3) (λ i a=>?_) hr
    by_cases hi:i=(l+r) / 2
    ·rw[hi];exact e'
    ·exact o.tr _ _ _ (h.bd (by exact amM a h1 h2 hk)) (h.bd (by exact aiH h1 h2 hk)) (h.bd hk) (s i ((l+r) / 2) (by exact amL a hi) hm) e'
theorem ZF (o:Ord n lt):∀(f:Nat) (p:Array Nat) (k:Nat),Pm n p->S lt p k->k+f<=n->Sat n lt (kas_bin f p k) (λ q=>Pm n q/\S lt q (k+f))
 |0,p,k,h,s,_=>⟨h,s⟩
 | f + 1, p, k,h,s,hk=>by
  refine Sat.bind (Sat.mono (λ l ⟨l1,l2,l3⟩=>?_) (Ef o h (by exact vY hk) s k 0 k (Nat.zero_le _) (z0g _) (by exact z0g _) (λ i a=>by exact (amO a).elim) λ i a b=>by exact (amN b a).elim))
  have hq:Pm n (bubble p k (k - l)):=h.of (bubble_perm _ _ _)
  have g:∀i,(bubble p k (k - l)).getD i 0=if i=l then p.getD k 0 else if l < i/\i<=k then p.getD (i - 1) 0 else p.getD i 0:=λ i=>by
   have e:=getElem?_bubble (xs:=p) (src:=k) (by rw[h.size];exact vY hk) (k - l) (by exact Nat.sub_le _ _) i
   rw[show k - (k - l)=l by exact amP l1] at e
   by_cases c1:i=l
   ·rw[if_pos c1] at e |-;exact HJ e
   ·rw[if_neg c1] at e |-
    by_cases c2:l < i/\i<=k
    ·rw[if_pos c2] at e |-;exact HJ e
    ·rw[if_neg c2] at e |-;exact HJ e
  have hs : S lt (bubble p k (k - l)) (k+1):=λ i j hij hj=>by
   rw[g i,g j]
   by_cases c1:i=l
   ·rw[if_pos c1,if_neg (by exact amR hij c1),if_pos ⟨by exact amQ hij c1,by exact Nat.le_of_lt_succ hj⟩]
    exact l3 (j - 1) (by exact ajS hij c1) (by exact ae7 hj hij)
   ·rw [if_neg c1]
    by_cases c2:l < i/\i<=k
    ·rw[if_pos c2,if_neg (by exact ajU c2 hij),if_pos ⟨by exact ajT c2 hij,by exact Nat.le_of_lt_succ hj⟩]
     exact s (i - 1) (j - 1) (by exact ajV c2 hij) (by exact ae7 hj hij)
    ·rw [if_neg c2]
     have hil:i < l:=by exact ajW hij hj c2 c1
     by_cases c3:j=l
     ·rw[if_pos c3];exact l2 i hil
     ·rw[if_neg c3]
      by_cases c4:l < j/\j<=k
      ·rw[if_pos c4]
       by_cases c5:i=j - 1
       ·exact (ajX c4 c5 c2 c1).elim
       ·exact s i (j - 1) (by exact ajY c4 hij c2 c1) (by exact ae7 hj hij)
      ·rw[if_neg c4]
       exact s i j hij (by exact ajZ hj l1 c4 c3)
  have:=ZF o f (bubble p k (k - l)) (k+1) hq hs (by exact ae4 hk)
  exact Sat.mono (λ q ⟨q1,q2⟩=>⟨q1,by rw[show k+(f+1)=k+1+f by exact aj0];exact q2⟩) this
theorem afj (o:Ord n lt) (hn:1<=n):Sat n lt (kas_sort n) (λ q=>Pm n q/\S lt q n):=by
 have h0:Pm n (List.toArray (List.range n)):=⟨by simp,by simp⟩
 refine Sat.bind (Sat.mono (λ r ⟨r1,r2,r3,r4⟩=>?_) (ade o h0 hn))
 by_cases hr:r.1 < n
 ·rw[if_pos hr]
  have e:max r.1 1=r.1:=by exact aj1 r2
  rw[e]
  refine Sat.mono (λ q ⟨q1,q2⟩=>⟨q1,?_⟩) (ZF o (n - r.1) r.2 r.1 r1 r4 (by exact aiF r3))
  rw[show r.1+(n - r.1)=n by exact aj2 r3] at q2
  exact q2
 ·rw[if_neg hr]
  have e:r.1=n:=by exact ae2 r3 hr
  rw[e] at r4
  exact⟨r1,r4⟩
end
end Pu
namespace Pu
open PySem PySem.Spec PySem.W L2
open PyProof.Rows hiding St
theorem Ky {h:Heap} {a b:Addr} {vs:List Value} {out:Array Value} {o:Obj} (hb:b≠a) (e:h.get? b=some o):(sortedHeap h a vs out).get? b=some o:=by
 unfold sortedHeap
 rw[Heap.get?_update_ne _ _ _ _ hb]
 exact z1a _ (z1a _ (by rw[Heap.get?_update_ne _ _ _ _ hb];exact e))
theorem sortedHeap_at {h:Heap} {a:Addr} {vs:List Value} {out:Array Value} {n:Nat} (e:h.get? a=some (seqObj "list" vs.toArray n)):∃c,(sortedHeap h a vs out).get? a=some (seqObj "list" out c):=by
 unfold sortedHeap
 have h1:=get?_update_seq e (λ Z=>(#[]:Array Value))
 exact⟨_,get?_update_seq (z1a _ (z1a _ h1)) λ Z=>out⟩
theorem adf (vs:List Value) (h:vs.length < 2):(vs.toArray.zip vs.toArray).map (·.2)=List.toArray ((List.toArray (List.range vs.length)).toList.map λ i=>vs.getD i Value.none):=by
 match vs,h with
 |[],_=>simp
 |[v],_=>simp[List.range_succ]
 |_::_::_,h=>exact absurd h (by simp)
section
variable {prog:Program} {w:World} {A:Around} {E:Value->Shared->Prop} {s:Shared}
theorem agY {a:Addr} {vs:List Value} {n:Nat} {P:PySem.Fin->Shared->Prop} {lt:Nat->Nat->Bool} {kk:SortKind} (ho:s.heap.get? a=some (seqObj "list" vs.toArray n)) (h64:vs.length < 64) (od:Ord vs.length lt)
  (kind:2<=vs.length->∀h':Heap,(∀b ob,b≠a->s.heap.get? b=some ob->h'.get? b=some ob)->∀Q:SortKind->Shared->Prop,Q kk {s with heap:=h'}->wpAny (model prog w) A (keyKind' vs.toArray) Q (λ Z Z=>False) {s with heap:=h'})
  (ask:∀h':Heap,(∀b ob,b≠a->s.heap.get? b=some ob->h'.get? b=some ob)->∀i j C,i < vs.length->j < vs.length->C (lt i j) {s with heap:=h'}->kas_ask prog w A kk vs i j C {s with heap:=h'})
  (h:∀q:Array Nat,Pm vs.length q->S lt q vs.length->P (.done (.ret .none)) {s with heap:=sortedHeap s.heap a vs (List.toArray (q.toList.map λ i=>vs.getD i Value.none))}):
  wpAny (model prog w) A (Builtin.«list.sort» ⟨[.ref a],[]⟩) P E s:=by
 rw[list_sort_plain]
 have ha:a < s.heap.objs.size:=z2c ho
 refine wpAny_bind (listItems_at ho rfl ?_)
 refine wpAny_bind (listUpdate_at ho rfl ?_ (by rw[z1c,sizeLine_eq];exact T4 h64) (Nat.zero_le _))
 obtain⟨e1,ho1⟩:∃e1,(s.heap.update a (Obj.mapSeq λ Z=>(#[]:Array Value))).get? a=some (seqObj "list" #[] e1):=⟨_,get?_update_seq ho (λ Z=> #[])⟩
 refine wpAny_bind (seqEpoch_at ho1 rfl ?_)
 refine wpAny_bind (wpAny_newTuple ?_ (by show vs.length<=_;rw[sizeLine_eq];exact T4 h64))
 refine wpAny_bind (wpAny_newList ?_ (Nat.zero_le _))
 refine wpAny_holding ?_
 generalize hh6:((s.heap.update a (Obj.mapSeq λ Z=>(#[]:Array Value))).push (seqObj "tuple" vs.toArray 0)).push (seqObj "list" #[] 0)=h6
 have ho6:h6.get? a=some (seqObj "list" #[] e1):=by
  rw[<-hh6];exact z1a _ (z1a _ ho1)
 have keep:∀b ob,b≠a->s.heap.get? b=some ob->h6.get? b=some ob:=λ b ob hb e=>by
  rw[<-hh6]
  exact z1a _ (z1a _ (by rw[Heap.get?_update_ne _ _ _ _ hb];exact e))
 have hsh:∀out:Array Value,sortedHeap s.heap a vs out=h6.update a (Obj.mapSeq λ Z=>out):=λ out=>by rw[<-hh6];rfl
 show wpAny (model prog w) A _ P E {s with heap:=h6}
 dsimp only
 have hsz:vs.toArray.size=vs.length:=by simp
 by_cases h2:vs.toArray.size < 2
 ·rw[if_pos h2,if_pos h2]
  refine wpAny_bind (wpAny_pure ?_)
  rw[StateT.run_pure]
  refine wpAny_bind (wpAny_pure ?_)
  dsimp only
  refine wpAny_bind (seqEpoch_at ho6 rfl ?_)
  refine wpAny_bind (listUpdate_at ho6 rfl ?_ (Nat.zero_le _) (by show (((pairsOf vs)).map (·.2)).size<=_;rw[Array.size_map,pairsOf_size,sizeLine_eq];exact agq h64))
  simp only[bne_self_eq_false,Bool.false_eq_true,if_false]
  have q:=h (List.toArray (List.range vs.length)) ⟨by simp,by simp⟩ (λ i j h1 h3=>by exact (aj3 h2 hsz h3 h1).elim)
  rw[hsh] at q
  have eo:(arrOf (SortSt.mk' general' (vs.toArray.zip vs.toArray) #[] 7 none)).map (·.2)=List.toArray ((List.toArray (List.range vs.length)).toList.map λ i=>vs.getD i Value.none):=by
   show (vs.toArray.zip vs.toArray).map (·.2)=_
   exact adf vs (by rw[<-hsz];exact h2)
  refine wpAny_pure ?_
  show P _ {s with heap:=h6.update a (Obj.mapSeq λ Z=>(arrOf (SortSt.mk' general' (vs.toArray.zip vs.toArray) #[] 7 none)).map (·.2))}
  rw[eo]
  exact q
 ·rw[if_neg h2,if_neg h2]
  have h2':2<=vs.length:=by rw[hsz] at h2;exact Nat.not_lt.mp h2
  refine wpAny_bind (wpAny_mono (kind h2' h6 keep (λ κ s'=>κ=kk/\s'={s with heap:=h6}) ⟨rfl,rfl⟩) (λ κ s0 hk=>?_) λ Z Z x=>x.elim)
  obtain⟨rfl,rfl⟩:=hk
  have wp:(kas_sort vs.length).kasWp (kas_ask prog w A κ vs) (λ p s''=>(Pm vs.length p/\S lt p vs.length)/\s''={s with heap:=h6}) {s with heap:=h6}:=
   Sat.wp (ask h6 keep) (λ p hp=>⟨hp,rfl⟩) (afj od (by exact z0e h2'))
  refine wpAny_bind (wpAny_mono (kat_run (Q:=λ st' s'=>∃p:Array Nat,p.size=vs.length/\arrOf st'=p.map (kas_item (vs.toArray.zip vs.toArray))/\failedOf st'=none/\(Pm vs.length p/\S lt p vs.length)/\s'={s with heap:=h6})
   rfl h2' h64 (λ p' st' s' a1 a2 a3 a4=>⟨p',a1,a2,a3,a4⟩) wp) ?_ λ Z Z e=>e)
  rintro⟨⟨⟩,st'⟩ s' ⟨p,hp,har,hf,⟨hpm,hps⟩,rfl⟩
  dsimp only
  have hout:=kat_snds rfl har
  rw[hout]
  refine wpAny_bind (seqEpoch_at ho6 rfl ?_)
  refine wpAny_bind (listUpdate_at ho6 rfl ?_ (Nat.zero_le _) (by show (List.toArray (p.toList.map λ i=>vs.getD i Value.none)).size<=_;rw[z1c,z1g,Array.length_toList,hp,sizeLine_eq];exact agq h64))
  rw[hf]
  simp only[bne_self_eq_false,Bool.false_eq_true,if_false]
  have q:=h p hpm hps
  rw[hsh] at q
  exact wpAny_pure q
end
section
variable {prog:Program} {w:World} {A:Around} {E:Value->Shared->Prop} {s:Shared}
end
section
variable {X:Cx} {pins:List (Addr×Obj)} {σ:St} {H:Hp} {s:Shared}
end
theorem ZG:∀as:List Addr,Vals (as.map V.ref) (as.map Value.ref)
 |[]=> .nil
 |a::as=> .cons rfl (ZG as)
section
variable {X:Cx}
end
section
variable {X:Cx}
end
end Pu
namespace Pu
open PySem PySem.Spec L2
open PyProof.Rows hiding St
section
variable {X:Cx} {a b:Expr} {es:List Expr} {f g:aq->R D} {fa:aq->R (List D)} {pos:Pos}
noncomputable def Ux (i k:Nat) (f:aq->R D) (fa:aq->R (List D)):aq->So:=λ ρ=>qM (f ρ) ρ λ d=>match fa ρ with
 | .ok ds=>if ds.length<=1000000 then .nx ((ρ.set i (some (.val d))).set k (some (.lst ds))) else .bad
 |_=> .bad
theorem agZ (i k:Nat) {x y:Str} {px py pt p3:Pos} {kt k2 pt2} (hc:X.calm=true) (hN:X.N.Nodup) (ha:DE X a f) (hb:DA X es fa) (hi:autoParam (X.N[i]?=some x) bD._auto_1) (hk:autoParam (X.N[k]?=some y) bD._auto_1)
  (hx:autoParam (Loc X.env.scope x) vC._auto_1) (hy:autoParam (Loc X.env.scope y) vC._auto_1)
  (hfx:autoParam (X.fn x=true\/X.env.scope.names.lookup x=some .local) vD._auto_1) (Uo:autoParam (X.fn y=true\/X.env.scope.names.lookup y=some .local) vD._auto_1)
  (h1:autoParam (starEach [a,.List es p3] X.env=(false,eval a X.env)::starEach [.List es p3] X.env) bD._auto_1) (h2:autoParam (starEach [.List es p3] X.env=(false,eval (.List es p3) X.env)::starEach [] X.env) bD._auto_1)
  (hs:autoParam (swapsWithSole [.Tuple [.Name x px,.Name y py] kt pt] (.Tuple [a,.List es p3] k2 pt2) pos.line X.env=pure false) bD._auto_1) (hw:autoParam (swappedStores [.Tuple [.Name x px,.Name y py] kt pt] (.Tuple [a,.List es p3] k2 pt2) X.env=pure none) bD._auto_1):
  DS X (.Assign [.Tuple [.Name x px,.Name y py] kt pt] (.Tuple [a,.List es p3] k2 pt2) pos) (Ux i k f fa):=by
 refine PS.imp (ps_asg (pe_tup (pa_cons ha (pa_cons (ZC hb) pa_nil h2) h1)) (pg_tup hc (pgs_cons (pg_name hN hi hx hfx) (pgs_cons (pg_name hN hk hy Uo) pgs_nil))) hs hw) λ σ H E h=>?_
 refine bc λ zQ=>?_
 obtain⟨H0,O0,O,ρ,j,h⟩:=h
 apply zQ;clear zQ
 refine⟨ρ,O,j.inn,?_⟩
 unfold Ux qM at h
 cases e1:f ρ with
 |bad=>rw[e1] at h;exact h
 |err c=>rw[e1] at h;exact h σ H O j
 | ok d=>
  rw[e1] at h
  intro v H1 s1 rv
  have j1:=j.grow s1
  refine⟨ρ,O,j1.inn,?_⟩
  cases e2:fa ρ with
  |bad=>simp only[e2] at h;exact h
  |err c=>simp only[e2] at h;exact h.elim
  | ok ds=>
   simp only[e2] at h
   by_cases hl:ds.length<=1000000
   ·simp only[if_pos hl] at h
    intro vs H2 s2 rvs
    refine⟨by rw[<-rvs.length];exact z0b hl gk,λ p hp hpk=>?_⟩
    refine⟨by show 2<=sizeLine;decide,λ t ht=>?_⟩
    refine⟨t,[v,.ref p],rfl,SqT.of upd_same,rfl,v,[.ref p],rfl,.ref p,[],rfl,rfl,?_⟩
    have j2:=(j1.grow s2).set (z1b hi).1 (rv.same s2)
    refine bc λ zQ=>?_
    obtain⟨j3,r3⟩:=j2.own (z1b hk).1 (o:= .lst vs) (en:= .lst ds) hp hpk rfl ⟨p,vs,rfl,.inr rfl,upd_same,rvs.go ⟨(Same.iW (K:=X.K) (O:=O) (Same.upd hp)).ext,λ a z=>z.elim .inl λ e=> .inr (by rw[e];exact⟨hp,hpk⟩),(Same.iW (K:=X.K) (O:=O) (Same.upd hp)).dom⟩⟩
    apply zQ;clear zQ
    have s4:Same (upd H2 p (.lst vs)) (upd (upd H2 p (.lst vs)) t (.tup [v,.ref p])):=Same.upd ht
    exact h _ _ _ (j3.grow s4) ((((Same.iW s1).trans (Same.iW s2)).trans r3).trans (Same.iW s4))
   ·simp only[if_neg hl] at h;exact h.elim
end
noncomputable def HN (s:String):Bool:=s == "int" || s == "bool"
noncomputable def Bu (s:String):Bool:=s == "bool"
noncomputable def lG (s:String):Bool:=s == "tuple"
noncomputable def Bv (s:String):Bool:=s == "list"
noncomputable def aZ (P:Program) (w:World) (K:PySem.W.Frag) (mg:Str->Option Value) (base:Heap) (k:Nat) (x:Str) (n:Nat) (F:List D->R D):Prop:=
 ∃f fd ps,FnOk P w K mg base CX0 k f fd ps (Us K n F)/\mg x=some (.ref f)/\PySem.W.keepIn K (.ref f)=true/\Binds K fd ps []
theorem bV {X:Cx} {k n m:Nat} {F:List D->R D} {x:Str} {p pos:Pos} {e:Expr} {es:List Expr} {fa:aq->R (List D)} (G:aZ X.prog X.w X.K X.mg X.base k x n F) (hr:Room m X.A) (hkm:k<=m) (ha:DA X (e::es) fa) (hg:autoParam (Gl X x) bD._auto_1)
  (hdb:autoParam ((x ==("__debug__" :Str))=false) eY._auto_1) (he:autoParam (starEach (e::es) X.env=(false,eval e X.env)::starEach es X.env) bD._auto_1) (hpl:autoParam ((backTo pos (starEach es X.env)).any (·.1)=false) bD._auto_1):
  DE X (.Call (.Name x p) (e::es) [] pos) (aH (bw F n) fa):=by
 obtain⟨f,fd,ps,ok,hm,hk,hb⟩:=G
 exact agW ok (hr.mono hkm) hg hm hk hb ha hdb he hpl
theorem gC {A:Around} {k:Nat} (hr:Room k A):A.units+60 < cLine:=by have:=hr.un;exact aj4 this
theorem cU {P:Program} {w:World} {K:PySem.W.Frag} {mg:Str->Option Value} {base:Heap} {x qual:Str} {st:Stmt} {f:Addr} {fd:FuncData} {N ps:List Str} {k n m:Nat} {g:aq->So} (Fn:Fun K x qual st f fd) (hmg:mg x=some (.ref f)) (hb:Binds K fd ps []) (S:FnScope N ps (defScope st)) (hn:ps.length=n) (hm:N.length=n+m)
  (hbody:∀(cdv:Value) (A:Around) (outer:List PySem.Env) (s:Shared) (H:Hp) (E:XK),Room k (A.deeper (envOfC qual (defScope st) s.heap.objs.size f cdv))->cX (cxOf CX0 P w K mg base N qual (defScope st) f cdv A outer s H E).nox (defBody st) g):
  aZ P w K mg base (k+1) x n (cT m g):=⟨f,fd,ps,fnD Fn S hn hm hbody λ ds d Z e=>e,hmg,Fn.kp,hb⟩
theorem sp_law {K:PySem.W.Frag} {F:List D->R D} {H:Hp} {a:Addr} {ns:List Int} {E:XK} (hS:SqL K H a (ns.map V.int)) (hF:F [.lst (ns.map D.int)]= .ok (.bl true)):Us K 1 F [.ref a] H (λ v Z=>v= .bl true) E:=by
 refine⟨λ Z=>False,[.lst (ns.map D.int)],.cons (vO hS (λ z=>z) ?_) .nil,rfl,λ a z=>z.elim,?_⟩
 ·have:∀l:List Int,aY K (λ Z=>False) H (l.map D.int) (l.map V.int):=by
   intro l
   induction l with
   |nil=>exact .nil
   |cons i l ih=>exact .cons (cO i) ih
  exact this ns
 ·rw[hF]
  exact λ v H' Z r=>r.bl
end Pu
namespace Pu
open PySem PySem.Spec L2
theorem ZJ {α:Type} {k:D->R (Option D)} {c h:α->D}:∀{l:List α},(∀a∈l,k (c a)= .ok (some (h a)))->mL k (l.map c)= .ok (l.map h)
 |[],_=>rfl
 | a::l,q=>by
  rw[z1h,ac2,q a (by simp),Ku,R.bF,ZJ λ b hb=>q b (by simp[hb])]
  rfl
theorem Kz {α:Type} {c:α->Bool}:∀{l:List α},boolsOf (l.map λ a=> .bl (c a))=some (l.map c)
 |[]=>rfl
 | a::l=>by
  rw[z1h,ac5,Kz]
  rfl
theorem Eh {α:Type} {c:α->Int}:∀{l:List α},intsOf (l.map λ a=> .int (c a))=some (l.map c)
 |[]=>rfl
 | a::l=>by
  rw[z1h,afg,Eh]
  rfl
theorem vV {α:Type} {c:α->D} {n:Nat}:∀{l:List α},(∀a∈l,dep (c a)<=n)->deps (l.map c)<=n
 |[],_=>by rw[List.map_nil,aiZ];exact Nat.zero_le _
 | a::l,h=>by
  rw[z1h,ada]
  have:=h a (by simp)
  have:=vV (l:=l) λ b hb=>h b (by simp[hb])
  exact aj5 (by assumption) this
theorem mZ {d e:D} (h:d=e) (hd:dep d<=40):oF d e= .ok (.bl false):=by
 subst h
 rw[oF,if_pos hd,Jt];rfl
theorem Uy {d e:D} (h:d=e) (hd:dep d<=40):qb d e= .ok (.bl true):=by
 subst h
 rw[qb,if_pos hd,Jt]
theorem all_true {l:List α}:(l.map λ Z=>true).all id=true:=by
 induction l with
 |nil=>rfl
 |cons a l ih=>rw[z1h,List.all_cons,ih];rfl
theorem atI_nat {α:Type} {xs:List α} {j:Nat} (h:j < xs.length):atI xs (j:Int)=some xs[j]:=by
 unfold atI ixN
 rw[if_pos (by exact z0a _),if_pos (by exact Int.ofNat_lt.mpr h),Int.toNat_natCast,Option.bind_some,List.getElem?_eq_getElem h]
theorem NQ {α:Type} {xs:List α} {i:Int} (h0:0<=i) (h1:i < xs.length):∃x∈xs,atI xs i=some x:=by
 obtain⟨j,rfl⟩:=Int.eq_ofNat_of_zero_le h0
 have hj:j < xs.length:=by exact Int.ofNat_lt.mp h1
 exact⟨xs[j],List.getElem_mem hj,atI_nat hj⟩
theorem cj {α:Type} {n:Nat} {caps:List Nat} {fi:aq->R (List D)} {gt:D->aq->R aq} {ft:aq->R Bool} {fe:aq->R D} {ρ:aq} {c h:α->D} {l:List α} (e1:fi ρ= .ok (l.map c)) (hl:l.length<=1000000)
  (e2:∀a∈l,pX gt ft fe (Br n caps ρ) (c a)= .ok (some (h a))):bR n caps fi gt ft fe ρ= .ok (.lst (l.map h)):=by
 rw[bR,e1,R.bF,ZJ e2,R.bF,cap,if_pos (by rw[z1g];exact hl)]
noncomputable def look:List (Int×Int)->Int->Int
 |[],_=>0
 |(k,v)::r,c=>if k=c then v else look r c
noncomputable abbrev keys (ps:List (Int×Int)):List Int:=ps.map (·.1)
section
variable {ρ ρ':aq} {f g:aq->R D} {fa:aq->R (List D)} {p q:aq->R Bool} {x y d:D} {xs ds:List D} {r:R D} {k:D->D->R D} {c:List D->R D} {n:Nat} {F:List D->R D} {o:So} {s t:aq->So} {gt:D->aq->R aq} {b:Bool}
theorem bC (e:fa ρ= .ok ds) (h:c ds=r):aH c fa ρ=r:=by rw[aH,e];exact h
theorem bH (e:fa ρ= .ok ds) (h:F ds= .ok d) (hl:autoParam (ds.length=n) bD._auto_1):aH (bw F n) fa ρ= .ok d:=by rw[aH,e,R.bF,bw,if_pos hl,h];rfl
theorem aF (e1:f ρ= .ok x) (e2:fa ρ= .ok xs):ao f fa ρ= .ok (x::xs):=by rw[ao,e1,R.bF,e2];rfl
theorem aB (e:f ρ= .ok x):ao f (λ Z=> .ok []) ρ= .ok [x]:=aF e rfl
theorem au (e1:f ρ= .ok x) (e2:g ρ= .ok y) (h:k x y=r):bin f g k ρ=r:=by rw[bin,e1,R.bF,e2];exact h
theorem Uz (e1:f ρ= .ok (.bl true)) (e2:g ρ=r):yP f g ρ=r:=by rw[yP,e1];exact e2
theorem adg {h:aq->R D} {l:D->D->R D} {z:D} (e1:f ρ= .ok x) (e2:g ρ= .ok y) (e3:k x y= .ok (.bl true)) (e4:h ρ= .ok z) (e5:l y z=r):Uj f g h k l ρ=r:=by
 rw[Uj,e1,R.bF,e2,R.bF,e3,R.bF]
 show (h ρ).bind _=_
 rw[e4];exact e5
theorem fK (e:fa ρ= .ok ds) (h:autoParam (ds.length<=1000000) ap7._auto_1):gB fa ρ= .ok (.tup ds):=by rw[gB,e,R.bF,cap,if_pos h]
theorem dR (e:fa ρ= .ok ds) (h:autoParam (ds.length<=1000000) ap7._auto_1):jc fa ρ= .ok (.lst ds):=by rw[jc,e,R.bF,cap,if_pos h]
theorem nO (e:f ρ= .ok (.tup ds)):eF f ρ= .ok ds:=by rw[eF,e];rfl
theorem gM (e:f ρ= .ok (.lst ds)):eF f ρ= .ok ds:=by rw[eF,e];rfl
theorem m7 {m:Nat} (e:fa ρ= .ok [.int (m:Int)]) (h:m < 2 ^ 62):(λ ρ=>(fa ρ).bind mW) ρ= .ok ((List.range m).map λ (i:Nat)=>D.int (i:Int)):=by
 show (fa ρ).bind mW=_
 rw[e,R.bF,aiQ,if_pos ⟨by have:(0:Int)<=m:=z0a m;exact z0a _,by omega⟩]
 simp[upto]
theorem cM {ρ1:aq} (e1:gt x ρ= .ok ρ1) (e2:f ρ1= .ok d):pX gt (λ Z=> .ok true) f ρ x= .ok (some d):=by
 rw[pX,e1,R.bF,R.bF,if_pos rfl,e2];rfl
theorem bf (e:f ρ= .ok (.bl b)):c7 f ρ= .ok b:=by rw[c7,e];rfl
theorem dY (e:p ρ= .ok b):pW p ρ= .ok (!b):=by rw[pW,e];rfl
theorem m8 (e1:p ρ= .ok false) (e2:q ρ= .ok b):Ea p q ρ= .ok b:=by rw[Ea,e1,R.bF,if_neg (by decide)];exact e2
theorem pH (e1:p ρ= .ok true) (e2:q ρ= .ok b):pB p q ρ= .ok b:=by rw[pB,e1,R.bF,if_pos rfl];exact e2
theorem HS (e1:p ρ= .ok false):pB p q ρ= .ok false:=by rw[pB,e1,R.bF,if_neg (by decide)]
theorem o7 {i:Nat} (h:xs[i]?=some d):cI (.tup xs) (.int (i:Int))= .ok d:=by
 obtain⟨hi,e⟩:=z1b h
 show (match (L2.atI _ _:Option D) with |some d=>R.ok d |none=>R.bad)=_
 rw[atI_nat hi,e]
theorem wG {i:Nat} (h:xs[i]?=some d):cI (.lst xs) (.int (i:Int))= .ok d:=by
 obtain⟨hi,e⟩:=z1b h
 show (match (L2.atI _ _:Option D) with |some d=>R.ok d |none=>R.bad)=_
 rw[atI_nat hi,e]
theorem aV (e1:s ρ= .nx ρ') (e2:t ρ'=o):bh s t ρ=o:=by rw[bh,e1];exact e2
theorem bM (e:f (dU ρ)= .ok d):retS f ρ= .rt d:=by rw[retS,e];rfl
theorem bB (e:f ρ= .ok d) (e2:gt d ρ= .ok ρ'):bL f gt ρ= .nx ρ':=by rw[bL,e];show (match gt d ρ with | .ok ρ'=>So.nx ρ' |_=> .bad)=_;rw[e2]
theorem HW (e:f (dU ρ)= .ok d):pY f ρ= .nx ρ:=by rw[pY,e];rfl
theorem fZ (e:p (dU ρ)= .ok true) (e2:s ρ=o):jf p s t ρ=o:=by rw[jf,e];exact e2
theorem dB (e:p (dU ρ)= .ok false) (e2:t ρ=o):jf p s t ρ=o:=by rw[jf,e];exact e2
theorem cL {m:Nat} (e:s (ds.map (λ d=>some (.val d))++List.replicate m none)= .rt d):cT m s ds= .ok d:=by rw[cT,e]
theorem aaL {m:Nat} (e:s (ds.map (λ d=>some (.val d))++List.replicate m none)= .nx ρ):cT m s ds= .ok .non:=by rw[cT,e]
theorem qd {i j:Int} (h:(-(2 ^ 64) < i/\i < 2 ^ 64)\/(-(2 ^ 64) < j/\j < 2 ^ 64)):jH (.int i) (.int j)= .ok (.int (i*j)):=by
 show (if _ then _ else _)=_
 rw[if_pos h]
theorem qe {i j:Int} (h:0 < j/\j < 2 ^ 64):jJ (.int i) (.int j)= .ok (.int (i / j)):=by
 show (if _ then _ else _)=_
 rw[if_pos h]
theorem qg {i j:Int} (h:0 < j):iZ (.int i) (.int j)= .ok (.int (i % j)):=by
 show (if _ then _ else _)=_
 rw[if_pos h]
theorem vW {α:Type} {l:List α}:p8 [.lst (l.map λ Z=> .bl true)]= .ok (.bl true):=by
 have:=Kz (c:=λ _:α=>true) (l:=l)
 rw[aiY,this]
 show R.ok (D.bl _)=_
 rw[all_true]
theorem ZK {α:Type} {c:α->Int} {l:List α}:Js [.lst (l.map λ a=> .int (c a))]= .ok (.int (l.map c).sum):=by rw[Js,Eh]
end
noncomputable def NT:aq->So:=(bh (bL (bin (λ Z=> .ok (.int 7)) (λ ρ=>ak ρ 1) jH) (aK 3)) (bh (jf (c7 (bin (λ ρ=>ak ρ 0) (jc (λ Z=> .ok [])) oF)) (bh (bL (bin (λ ρ=>ak ρ 0) (bin (λ ρ=>ak ρ 1) (aH eG (ao (λ ρ=>ak ρ 0) (λ Z=> .ok []))) iZ) cI) (aK 3)) (bh (bL (bin (λ ρ=>ak ρ 1) (aH eG (ao (λ ρ=>ak ρ 0) (λ Z=> .ok []))) jJ) (aK 4)) (bh (jf (pB (c7 (bin (λ ρ=>ak ρ 3) (bin (λ Z=> .ok (.int 10)) (λ Z=> .ok (.int 18)) yO) geI)) (c7 (bin (λ ρ=>ak ρ 4) (λ Z=> .ok (.int 60)) ltI))) (bh (bL (bin (λ ρ=>ak ρ 3) (bin (λ Z=> .ok (.int 10)) (λ Z=> .ok (.int 18)) yO) jJ) (aK 5)) (bh (oE (pB (c7 (bin (λ ρ=>ak ρ 5) (λ Z=> .ok (.int 0)) Ae)) (c7 (bin (λ ρ=>ak ρ 4) (λ Z=> .ok (.int 0)) Ae))) (bh (bL (bin (λ ρ=>ak ρ 5) (λ Z=> .ok (.int 1000000)) jJ) (aK 5)) (bL (bin (λ ρ=>ak ρ 4) (λ Z=> .ok (.int 1)) fD) (aK 4))) 64) (jf (c7 (bin (λ ρ=>ak ρ 5) (λ Z=> .ok (.int 0)) Ae)) (retS (bin (bin (λ ρ=>ak ρ 5) (λ Z=> .ok (.int 1000000)) iZ) (λ ρ=>ak ρ 2) iZ)) So.nx))) So.nx) (bL (bin (λ ρ=>ak ρ 3) (bin (λ Z=> .ok (.int 6553)) (bin (λ ρ=>ak ρ 1) (aH eG (ao (λ ρ=>ak ρ 0) (λ Z=> .ok []))) jJ) jH) jg) (aK 3))))) So.nx) (bh (bL (bin (bin (bin (bin (λ ρ=>ak ρ 3) (λ Z=> .ok (.int 2147483563)) iZ) (λ Z=> .ok (.int 69069)) jH) (bin (λ Z=> .ok (.int 104723)) (bin (λ ρ=>ak ρ 1) (λ Z=> .ok (.int 1)) jg) jH) jg) (λ Z=> .ok (.int 2147483563)) iZ) (aK 3)) (bh (bL (bin (bin (bin (λ ρ=>ak ρ 3) (λ ρ=>ak ρ 3) jH) (bin (λ ρ=>ak ρ 3) (λ Z=> .ok (.int 3)) jJ) jg) (λ Z=> .ok (.int 2147483399)) iZ) (aK 3)) (retS (bin (bin (bin (bin (bin (λ ρ=>ak ρ 3) (λ ρ=>ak ρ 3) jH) (bin (λ ρ=>ak ρ 3) (λ Z=> .ok (.int 7)) jJ) jg) (λ Z=> .ok (.int 2147483647)) iZ) (λ Z=> .ok (.int 11)) jJ) (λ ρ=>ak ρ 2) iZ))))))
noncomputable def tailD:aq->So:=(bh (bL (bin (bin (bin (bin (λ ρ=>ak ρ 3) (λ Z=> .ok (.int 2147483563)) iZ) (λ Z=> .ok (.int 69069)) jH) (bin (λ Z=> .ok (.int 104723)) (bin (λ ρ=>ak ρ 1) (λ Z=> .ok (.int 1)) jg) jH) jg) (λ Z=> .ok (.int 2147483563)) iZ) (aK 3)) (bh (bL (bin (bin (bin (λ ρ=>ak ρ 3) (λ ρ=>ak ρ 3) jH) (bin (λ ρ=>ak ρ 3) (λ Z=> .ok (.int 3)) jJ) jg) (λ Z=> .ok (.int 2147483399)) iZ) (aK 3)) (retS (bin (bin (bin (bin (bin (λ ρ=>ak ρ 3) (λ ρ=>ak ρ 3) jH) (bin (λ ρ=>ak ρ 3) (λ Z=> .ok (.int 7)) jJ) jg) (λ Z=> .ok (.int 2147483647)) iZ) (λ Z=> .ok (.int 11)) jJ) (λ ρ=>ak ρ 2) iZ))))
noncomputable def ai2:aq->So:=(jf (pB (c7 (bin (λ ρ=>ak ρ 3) (bin (λ Z=> .ok (.int 10)) (λ Z=> .ok (.int 18)) yO) geI)) (c7 (bin (λ ρ=>ak ρ 4) (λ Z=> .ok (.int 60)) ltI))) (bh (bL (bin (λ ρ=>ak ρ 3) (bin (λ Z=> .ok (.int 10)) (λ Z=> .ok (.int 18)) yO) jJ) (aK 5)) (bh (oE (pB (c7 (bin (λ ρ=>ak ρ 5) (λ Z=> .ok (.int 0)) Ae)) (c7 (bin (λ ρ=>ak ρ 4) (λ Z=> .ok (.int 0)) Ae))) (bh (bL (bin (λ ρ=>ak ρ 5) (λ Z=> .ok (.int 1000000)) jJ) (aK 5)) (bL (bin (λ ρ=>ak ρ 4) (λ Z=> .ok (.int 1)) fD) (aK 4))) 64) (jf (c7 (bin (λ ρ=>ak ρ 5) (λ Z=> .ok (.int 0)) Ae)) (retS (bin (bin (λ ρ=>ak ρ 5) (λ Z=> .ok (.int 1000000)) iZ) (λ ρ=>ak ρ 2) iZ)) So.nx))) So.nx)
noncomputable def wcD:aq->R Bool:=(pB (c7 (bin (λ ρ=>ak ρ 5) (λ Z=> .ok (.int 0)) Ae)) (c7 (bin (λ ρ=>ak ρ 4) (λ Z=> .ok (.int 0)) Ae)))
noncomputable def wbD:aq->So:=(bh (bL (bin (λ ρ=>ak ρ 5) (λ Z=> .ok (.int 1000000)) jJ) (aK 5)) (bL (bin (λ ρ=>ak ρ 4) (λ Z=> .ok (.int 1)) fD) (aK 4)))
section
variable {S s0 s1 s2 s3 x y:Option Ent} {k m c:Int}
theorem tail_eq (hm:0 < m):∃v,tailD [S,some (.val (.int k)),some (.val (.int m)),some (.val (.int c)),x,y]= .rt (.int v)/\0<=v/\v < m:=by
 refine⟨_,aV (bB (au (au (au (au rfl rfl (qg (by exact z0a _))) rfl (qd (.inr ⟨by exact z0a _,by exact z0a _⟩))) (au rfl (au rfl rfl rfl) (qd (.inl ⟨by exact z0a _,by exact z0a _⟩))) rfl) rfl (qg (by exact z0a _))) rfl)
  (aV (bB (au (au (au rfl rfl (qd (.inl ?b1))) (au rfl rfl (qe ⟨by exact z0a _,by exact z0a _⟩)) rfl) rfl (qg (by exact z0a _))) rfl)
  (bM (au (au (au (au (au rfl rfl (qd (.inl ?b2))) (au rfl rfl (qe ⟨by exact z0a _,by exact z0a _⟩)) rfl) rfl (qg (by exact z0a _))) rfl (qe ⟨by exact z0a _,by exact z0a _⟩)) rfl (qg hm)))),Int.emod_nonneg _ (by exact oq5 hm),Int.emod_lt_of_pos _ hm⟩
 case b1=>
  have h1:=Int.emod_nonneg (c % 2147483563*69069+104723*(k+1)) (b:=2147483563) (by exact aj6)
  have h2:=Int.emod_lt_of_pos (c % 2147483563*69069+104723*(k+1)) (b:=2147483563) (by exact z0a _)
  first |exact ⟨h1,Int.lt_trans h2 (by decide)⟩ |exact ⟨Int.lt_of_lt_of_le (by decide) h1,Int.lt_trans h2 (by decide)⟩ |constructor <;> omega
 case b2=>
  generalize (c % 2147483563*69069+104723*(k+1)) % 2147483563=z
  have h1:=Int.emod_nonneg (z*z+z / 3) (b:=2147483399) (by exact aj7)
  have h2:=Int.emod_lt_of_pos (z*z+z / 3) (b:=2147483399) (by exact z0a _)
  first |exact ⟨h1,Int.lt_trans h2 (by decide)⟩ |exact ⟨Int.lt_of_lt_of_le (by decide) h1,Int.lt_trans h2 (by decide)⟩ |constructor <;> omega
theorem Bw {i j:Int}:Ae (.int i) (.int j)= .ok (.bl (decide (j < i))):=rfl
theorem UG:∀{n:Nat} {t r:Int},0<=t->t < n->∃t' r',oE wcD wbD n [s0,s1,s2,s3,some (.val (.int t)),some (.val (.int r))]= .nx [s0,s1,s2,s3,some (.val (.int t')),some (.val (.int r'))]
 |0,t,r,h0,h1=>by exact (aj8 h0 h1).elim
 | n + 1,t,r,h0,h1=>by
  rw[alD]
  by_cases hr:0 < r
  ·by_cases ht:0 < t
   ·obtain⟨t',r',e⟩:=UG (n:=n) (t:=t - 1) (r:=r / 1000000) (by exact akb ht) (by exact aj9 h1)
    refine⟨t',r',?_⟩
    have e1:wcD (dU [s0,s1,s2,s3,some (.val (.int t)),some (.val (.int r))])= .ok true:=pH (bf (au rfl rfl (by rw[Bw,decide_eq_true hr]))) (bf (au rfl rfl (by rw[Bw,decide_eq_true ht])))
    have e2:wbD [s0,s1,s2,s3,some (.val (.int t)),some (.val (.int r))]= .nx [s0,s1,s2,s3,some (.val (.int (t - 1))),some (.val (.int (r / 1000000)))]:=aV (bB (au rfl rfl (qe ⟨by exact z0a _,by exact z0a _⟩)) rfl) (bB (au rfl rfl rfl) rfl)
    simp only[e1,e2]
    exact e
   ·refine⟨t,r,?_⟩
    have e1:wcD (dU [s0,s1,s2,s3,some (.val (.int t)),some (.val (.int r))])= .ok false:=pH (bf (au rfl rfl (by rw[Bw,decide_eq_true hr]))) (bf (au rfl rfl (by rw[Bw,decide_eq_false ht])))
    simp only[e1]
  ·refine⟨t,r,?_⟩
   have e1:wcD (dU [s0,s1,s2,s3,some (.val (.int t)),some (.val (.int r))])= .ok false:=HS (bf (au rfl rfl (by rw[Bw,decide_eq_false hr])))
   simp only[e1]
theorem KC:yO (.int 10) (.int 18)= .ok (.int 1000000000000000000):=by
 unfold yO iD
 simp only[]
 rw[if_pos ⟨by decide,by decide,by decide⟩];rfl
theorem ai3 {t:Int} (hm:0 < m) (ht:0<=t):(∃t' x',ai2 [S,some (.val (.int k)),some (.val (.int m)),some (.val (.int c)),some (.val (.int t)),x]= .nx [S,some (.val (.int k)),some (.val (.int m)),some (.val (.int c)),some (.val (.int t')),x'])\/
  ∃v,ai2 [S,some (.val (.int k)),some (.val (.int m)),some (.val (.int c)),some (.val (.int t)),x]= .rt (.int v)/\0<=v/\v < m:=by
 by_cases h1:1000000000000000000<=c
 ·by_cases h2:t < 60
  ·have e:(pB (c7 (bin (λ ρ=>ak ρ 3) (bin (λ Z=> .ok (.int 10)) (λ Z=> .ok (.int 18)) yO) geI)) (c7 (bin (λ ρ=>ak ρ 4) (λ Z=> .ok (.int 60)) ltI))) (dU [S,some (.val (.int k)),some (.val (.int m)),some (.val (.int c)),some (.val (.int t)),x])= .ok true:=
    pH (bf (au rfl (au rfl rfl KC) (by show R.ok (D.bl (decide _))=_;rw[decide_eq_true h1]))) (bf (au rfl rfl (by show R.ok (D.bl (decide _))=_;rw[decide_eq_true h2])))
   obtain⟨t',r',ew⟩:=UG (s0:=S) (s1:=some (.val (.int k))) (s2:=some (.val (.int m))) (s3:=some (.val (.int c))) (n:=64) (t:=t) (r:=c / 1000000000000000000) ht (by exact akc h2)
   by_cases h3:0 < r'
   ·exact .inr ⟨_,fZ e (aV (bB (au rfl (au rfl rfl KC) (qe ⟨by exact z0a _,by exact z0a _⟩)) rfl) (aV ew (fZ (bf (au rfl rfl (by rw[Bw,decide_eq_true h3]))) (bM (au (au rfl rfl (qg (by exact z0a _))) rfl (qg hm)))))),Int.emod_nonneg _ (by exact oq5 hm),Int.emod_lt_of_pos _ hm⟩
   ·exact .inl ⟨t',some (.val (.int r')),fZ e (aV (bB (au rfl (au rfl rfl KC) (qe ⟨by exact z0a _,by exact z0a _⟩)) rfl) (aV ew (dB (bf (au rfl rfl (by rw[Bw,decide_eq_false h3]))) rfl)))⟩
  ·exact .inl ⟨t,x,dB (pH (bf (au rfl (au rfl rfl KC) (by show R.ok (D.bl (decide _))=_;rw[decide_eq_true h1]))) (bf (au rfl rfl (by show R.ok (D.bl (decide _))=_;rw[decide_eq_false h2])))) rfl⟩
 ·exact .inl ⟨t,x,dB (HS (bf (au rfl (au rfl rfl KC) (by show R.ok (D.bl (decide _))=_;rw[decide_eq_false h1])))) rfl⟩
end
theorem jB {ρ:aq} {s t:aq->So} {d:D} (e1:s ρ= .rt d):bh s t ρ= .rt d:=by rw[bh,e1]
theorem Ei {xs:List D} {i:Int} {d:D} (h:atI xs i=some d):cI (.lst xs) (.int i)= .ok d:=by
 show (match (L2.atI _ _:Option D) with |some d=>R.ok d |none=>R.bad)=_
 rw[h]
theorem afk {ns:List Int} {k m:Int} (hl:ns.length<=1000000) (hk:0<=k) (hm:0 < m):∃v,cT 3 NT [.lst (ns.map .int),.int k,.int m]= .ok (.int v)/\0<=v/\v < m:=by
 have hd:dep (.lst (ns.map .int))<=40:=by
  first |rw [jF] |rw [jG]
  have:=vV (c:=D.int) (n:=0) (l:=ns) (λ a Z=>by simp[jF,jG,vI,vJ,vK,vL])
  exact akd this
 cases ns with
 | nil=>
  obtain⟨v,e,h⟩:=tail_eq (S:=some (.val (.lst []))) (k:=k) (c:=7*k) (x:=none) (y:=none) hm
  exact⟨v,cL (aV (bB (au rfl rfl (qd (.inl ⟨by exact z0a _,by exact z0a _⟩))) rfl) (aV (dB (bf (au rfl (dR rfl) (mZ rfl hd))) rfl) e)),h⟩
 | cons a ns=>
  have hn:oF (.lst ((a::ns).map .int)) (.lst [])= .ok (.bl true):=by
   rw[oF,if_pos hd];rfl
  have hlen:(0:Int) < (((a::ns).map D.int).length:Int):=by rw[z1g,List.length_cons];exact ake
  have hlen2:(((a::ns).map D.int).length:Int) < 2 ^ 64:=by rw[z1g];omega
  obtain⟨d,hd1,hd2⟩:=NQ (xs:=(a::ns).map D.int) (i:=k % (((a::ns).map D.int).length:Int)) (Int.emod_nonneg _ (by omega)) (Int.emod_lt_of_pos _ hlen)
  obtain⟨c,-,rfl⟩:=List.mem_map.mp hd1
  have ht:0<=k / (((a::ns).map D.int).length:Int):=Int.ediv_nonneg hk (by omega)
  generalize hL:(((a::ns).map D.int).length:Int)=L at *
  have KD:∀(S x1 x2 x3 x4 x5:Option Ent),S=some (Ent.val (.lst ((a::ns).map D.int)))->aH eG (ao (λ ρ=>ak ρ 0) (λ Z=> .ok [])) [S,x1,x2,x3,x4,x5]= .ok (.int L):=by
   intro S x1 x2 x3 x4 x5 e
   subst e
   rw[<-hL]
   exact bC (aB rfl) rfl
  rcases ai3 (S:=some (.val (.lst ((a::ns).map .int)))) (k:=k) (m:=m) (c:=c) (x:=none) hm ht with⟨t',x',e⟩ |⟨v,e,h⟩
  ·obtain⟨v,e2,h⟩:=tail_eq (S:=some (.val (.lst ((a::ns).map .int)))) (k:=k) (c:=c+6553*(k / L)) (x:=some (.val (.int t'))) (y:=x') hm
   exact⟨v,cL (aV (bB (au rfl rfl (qd (.inl ⟨by exact z0a _,by exact z0a _⟩))) rfl) (aV (fZ (bf (au rfl (dR rfl) hn))
    (aV (bB (au rfl (au rfl (KD _ _ _ _ _ _ rfl) (qg hlen)) (Ei hd2)) rfl) (aV (bB (au rfl (KD _ _ _ _ _ _ rfl) (qe ⟨hlen,hlen2⟩)) rfl) (aV e (bB (au rfl (au rfl (au rfl (KD _ _ _ _ _ _ rfl) (qe ⟨hlen,hlen2⟩)) (qd (.inl ⟨by exact z0a _,by exact z0a _⟩))) rfl) rfl))))) e2)),h⟩
  ·exact⟨v,cL (aV (bB (au rfl rfl (qd (.inl ⟨by exact z0a _,by exact z0a _⟩))) rfl) (jB (fZ (bf (au rfl (dR rfl) hn))
    (aV (bB (au rfl (au rfl (KD _ _ _ _ _ _ rfl) (qg hlen)) (Ei hd2)) rfl) (aV (bB (au rfl (KD _ _ _ _ _ _ rfl) (qe ⟨hlen,hlen2⟩)) rfl) (jB e)))))),h⟩
theorem jt {ρ ρ1 ρ2:aq} {gt:D->aq->R aq} {b:aq->So} {x:D} {xs:List D} {o:So} (e1:gt x ρ= .ok ρ1) (e2:b ρ1= .nx ρ2) (e3:forL gt b xs ρ2=o):forL gt b (x::xs) ρ=o:=by
 rw[aiW]
 simp only[e1,e2]
 exact e3
theorem oG {ρ:aq} {fi:aq->R (List D)} {gt:D->aq->R aq} {b:aq->So} {xs:List D} {o:So} (e1:fi ρ= .ok xs) (e2:forL gt b xs ρ=o):pZ fi gt b ρ=o:=by
 rw[pZ,e1];exact e2
theorem ag0 {ρ:aq} {i k:Nat} {f:aq->R D} {fa:aq->R (List D)} {d:D} {ds:List D} (e1:f ρ= .ok d) (e2:fa ρ= .ok ds) (h:autoParam (ds.length<=1000000) ap7._auto_1):Ux i k f fa ρ= .nx ((ρ.set i (some (.val d))).set k (some (.lst ds))):=by
 unfold Ux
 rw[e1]
 simp only[qM,e2]
 rw[if_pos h]
noncomputable def dr (ns:List Int) (k m:Int):Int:=match cT 3 NT [.lst (ns.map .int),.int k,.int m] with
 | .ok (.int v)=>v
 |_=>0
theorem Bx {ns:List Int} {k m:Int} (hl:ns.length<=1000000) (hk:0<=k) (hm:0 < m):cT 3 NT [.lst (ns.map .int),.int k,.int m]= .ok (.int (dr ns k m))/\0<=dr ns k m/\dr ns k m < m:=by
 obtain⟨v,e,h⟩:=afk hl hk hm
 have:dr ns k m=v:=by rw[dr,e]
 rw[this]
 exact⟨e,h⟩
end Pu
namespace Pu
open PySem PySem.Spec L2
open PyProof.Rows hiding St
section
variable {X:Cx}
noncomputable def wH:List D->R D:=aaE λ i=> .ok (.int (if i < 0 then -i else i))
theorem ang (i:Int):wH [.int i]=(.ok (.int (if i < 0 then -i else i))):=rfl
theorem Aj:CallD X (.builtin "abs") wH:=by
 refine⟨_,call_abs,λ ρ O σ H Q xs ds j r h=>?_⟩
 replace h:=Nt h
 obtain⟨i,rfl,h⟩:=h
 obtain⟨x,rfl,rx⟩:=r.one
 exact⟨i,by rw[rx.int],fin h (cO _)⟩
noncomputable def maxD:List D->R D:=aaF λ i j=> .ok (.int (if j > i then j else i))
theorem anh (i j:Int):maxD [.int i,.int j]=(.ok (.int (if j > i then j else i))):=rfl
theorem Ak (hc:X.calm=true):CallD X (.builtin "max") maxD:=by
 refine⟨_,call_max2 hc,λ ρ O σ H Q xs ds j r h=>?_⟩
 replace h:=Nu h
 obtain⟨i,k,rfl,h⟩:=h
 obtain⟨x,y,rfl,rx,ry⟩:=r.two
 exact⟨i,k,by rw[rx.int,ry.int],fin h (cO _)⟩
noncomputable def minD:List D->R D:=aaF λ i j=> .ok (.int (if j < i then j else i))
theorem ani (i j:Int):minD [.int i,.int j]=(.ok (.int (if j < i then j else i))):=rfl
theorem Ej (hc:X.calm=true):CallD X (.builtin "min") minD:=by
 refine⟨_,call_min2 hc,λ ρ O σ H Q xs ds j r h=>?_⟩
 replace h:=Nu h
 obtain⟨i,k,rfl,h⟩:=h
 obtain⟨x,y,rfl,rx,ry⟩:=r.two
 exact⟨i,k,by rw[rx.int,ry.int],fin h (cO _)⟩
noncomputable def KH:D->Bool
 | .non=>true
 |_=>false
theorem ZL {K:PySem.W.Frag} {O:Addr->Prop} {H:Hp} {d:D} {v:V} (r:Rep K O H d v):decide (v= .non)=KH d:=by
 cases d with
 |non=>rw[r.non];rfl
 |bl b=>rw[r.bl];rfl
 |int i=>rw[r.int];rfl
 |str x=>rw[r.str];rfl
 |tup ds=>obtain⟨a,xs,rfl,_⟩:=r.tup;rfl
 |lst ds=>obtain⟨a,xs,rfl,_⟩:=r.lst;rfl
noncomputable def isD:D->D->R D
 |d,.non=> .ok (.bl (KH d))
 |_,_=> .bad
noncomputable def adh:D->D->R D
 |d,.non=> .ok (.bl (!KH d))
 |_,_=> .bad
theorem aaM:lD X (compareOp .Is) isD:=by
 refine⟨_,op_isN,λ ρ O σ H Q x y dx dy j0 rx ry h=>?_⟩
 cases dy with
 |non=>exact⟨ry.non,by rw[ZL rx];exact fin (a:=D.bl (KH dx)) h (gY _)⟩
 |_=>cases dx <;> exact h.elim
theorem afl:lD X (compareOp .IsNot) adh:=by
 refine⟨_,op_notN,λ ρ O σ H Q x y dx dy j0 rx ry h=>?_⟩
 cases dy with
 |non=>exact⟨ry.non,by rw[ZL rx];exact fin (a:=D.bl (!KH dx)) h (gY _)⟩
 |_=>cases dx <;> exact h.elim
theorem ag1:OpR X (binaryOp .Add) (λ x y H Q=>∃a b ys,x= .ref a/\y= .ref b/\SqT X.K H a []/\SqT X.K H b ys/\Q (.ref b) H):=by
 intro pins s σ H x y v u Q I rx ry h
 refine bc λ zQ=>?_
 obtain⟨a,b,ys,rfl,rfl,ha,hb,q⟩:=h
 apply zQ;clear zQ
 obtain rfl:=rx
 obtain rfl:=ry
 refine bc λ zQ=>?_
 obtain⟨its,r1,p1,_⟩:=I.tuple ha
 obtain⟨its2,r2,p2,_⟩:=I.tuple hb
 apply zQ;clear zQ
 cases r1
 refine bc λ zQ=>?_
 obtain⟨⟨cls,dd,data,sl⟩,ho,hc,n,hd⟩:=id p1
 obtain⟨⟨cls2,dd2,data2,sl2⟩,ho2,hc2,n2,hd2⟩:=id p2
 apply zQ;clear zQ
 simp only at hc hd hc2 hd2
 subst hc hd hc2 hd2
 exact concat_meets ⟨_,ho,rfl⟩ ⟨_,ho2,rfl⟩ noFill_tuple_add seq_tuple_add PySem.F.slot_tuple_add PySem.F.entry_tuple_add (PySem.F.args_tuple_add_2 _ _)
   (tuple_addW0 a b _ _ n n2 dd dd2 sl sl2 rfl) ⟨ho,ho2,⟨.ref b,H,I,rfl,q⟩⟩
noncomputable def amV:D->R D
 | .int i=> .ok (.int (-i))
 |_=> .bad
noncomputable def Ek (f:aq->R D):aq->R D:=λ ρ=>(f ρ).bind amV
theorem El {e:Expr} {f:aq->R D} {pos:Pos} (he:DE X e f):DE X (.UnaryOp .USub e pos) (Ek f):=by
 refine PE.imp (pe_un un_neg he) λ σ H Q h=>?_
 obtain⟨ρ,O,j,h⟩:=h
 refine go j h λ d v H1 e1 s1 r1 j1 h1=>?_
 cases d with
 |int i=>exact⟨i,r1.int,fin h1 (cO _)⟩
 |_=>exact h1.elim
theorem ag2:OpR X (binaryOp .Add) (λ x y H Q=>∃a b xs ys,x= .ref a/\y= .ref b/\SqL X.K H a xs/\SqL X.K H b ys/\xs.length+ys.length<=sizeLine/\∀p,H p=none->Q (.ref p) (upd H p (.lst (xs++ys)))):=by
 intro pins s σ H x y v u Q I rx ry h
 refine bc λ zQ=>?_
 obtain⟨a,b,xs,ys,rfl,rfl,ha,hb,hz,q⟩:=h
 apply zQ;clear zQ
 obtain rfl:=rx
 obtain rfl:=ry
 refine bc λ zQ=>?_
 obtain⟨its,r1,p1,_⟩:=I.list ha
 obtain⟨its2,r2,p2,_⟩:=I.list hb
 obtain⟨⟨cls,dd,data,sl⟩,n,ho,hc,hdd,hd⟩:=id p1
 obtain⟨⟨cls2,dd2,data2,sl2⟩,n2,ho2,hc2,anq,hd2⟩:=id p2
 apply zQ;clear zQ
 simp only at hc hd hc2 hd2
 subst hc hd hc2 hd2
 refine concat_meets ⟨_,ho,rfl⟩ ⟨_,ho2,rfl⟩ noFill_list_add seq_list_add PySem.F.slot_list_add PySem.F.entry_list_add (PySem.F.args_list_add_2 _ _)
   (list_addW a b _ _ n n2 dd dd2 sl sl2 (by rw[z1c,z1c,<-r1.length,<-r2.length];exact hz)) ⟨ho,ho2,?_⟩
 have ea:its.toArray++its2.toArray=(its++its2).toArray:=by simp
 rw[ea]
 exact⟨.ref _,_,I.lnew (t':=s.toks) (r1.append r2) (by rw[z1d];assumption),rfl,q _ I.fresh⟩
noncomputable def dH:D->D->R D
 | .int i,.int j=> .ok (.int (i+j))
 | .tup xs,.tup ys=>if xs.length+ys.length<=1000000 then .ok (.tup (xs++ys)) else .bad
 | .lst xs,.lst ys=>if xs.length+ys.length<=1000000 then .ok (.lst (xs++ys)) else .bad
 |_,_=> .bad
set_option tactic.hygienic true in
theorem cC:lD X (binaryOp .Add) dH:=by
 refine⟨_,OpR.or op_add (OpR.or op_catT (OpR.or ag1 ag2)),λ ρ O σ H Q x y dx dy j0 rx ry h=>?_⟩
 cases dx <;> cases dy <;> first
  |exact h.elim
  |skip
 ·rename_i i j
  exact .inl ⟨i,j,rx.int,ry.int,fin h (cO _)⟩
 ·rename_i xs ys
  have h:good X (rD X) O (if xs.length+ys.length<=1000000 then .ok (.tup (xs++ys)) else .bad) σ H Q:=h
  by_cases hc:xs.length+ys.length<=1000000
  ·rw [if_pos hc] at h
   obtain⟨a,us,rfl,ha,r1⟩:=rx.tup
   obtain⟨b,ws,rfl,hb,r2⟩:=ry.tup
   by_cases hx:us=[]
   ·subst hx
    have:xs=[]:=List.eq_nil_of_length_eq_zero r1.length
    subst this
    exact .inr (.inr (.inl ⟨a,b,ws,rfl,rfl,ha,hb,fin h (jM hb r2)⟩))
   ·refine .inr (.inl ⟨a,b,us,ws,rfl,rfl,ha,hb,hx,?_,λ z=>?_,λ z l hl=>?_⟩)
    ·rw[<-r1.length,<-r2.length];exact z0b hc gk
    ·subst z
     have:ys=[]:=List.eq_nil_of_length_eq_zero r2.length
     subst this
     rw[List.append_nil] at h
     exact fin h (jM ha r1)
    ·exact h _ _ (Same.upd hl) (Rep.vP hl (r1.append r2))
  ·rw[if_neg hc] at h;exact h.elim
 ·rename_i xs ys
  have h:good X (rD X) O (if xs.length+ys.length<=1000000 then .ok (.lst (xs++ys)) else .bad) σ H Q:=h
  by_cases hc:xs.length+ys.length<=1000000
  ·rw[if_pos hc] at h
   obtain⟨a,us,rfl,ha,_,r1⟩:=rx.lst
   obtain⟨b,ws,rfl,hb,_,r2⟩:=ry.lst
   refine .inr (.inr (.inr ⟨a,b,us,ws,rfl,rfl,ha,hb,?_,λ l hl=>?_⟩))
   ·rw[<-r1.length,<-r2.length];exact z0b hc gk
   ·exact h _ _ (Same.upd hl) (Rep.nM hl (j0.vZ hl) (r1.append r2))
  ·rw[if_neg hc] at h;exact h.elim
end
section
variable {prog:Program} {w:World} {A:Around} {E:Value->Shared->Prop} {s:Shared}
open HT in
theorem DX {t sl:Addr} {items:Array Value} {vl vu:Value} {lo hi:Option Int} {Q:Value->Shared->Prop} (ht:IsTup s.heap t items) (hs:s.heap.IsSliceOf sl vl vu .none) (pl:IsPart vl lo) (pu:IsPart vu hi)
  (hw:sIx items.size 0 lo=0/\sIx items.size items.size hi=items.size) (h:Q (.ref t) s):wpAny (model prog w) A (getItem (.ref t) (.ref sl)) Q E s:=by
 obtain⟨os,hos,hcs,hds⟩:=id hs
 have hTs:s.TypeIs (.ref sl) "slice" :=⟨os,hos,hcs⟩
 unfold getItem
 try with_reducible refine wpAny_holding ?_
 first |refine wpAny_bind (wpAny_pure ?_) |skip
 refine wpAny_bind (wpAny_sequenceKey ht.typeIs (by decide) ?_)
 refine wpAny_bind (wpAny_callSpecial?_slot (name:=Str.ofString "__getitem__") ht.typeIs PyProof.Rows.slot_tuple_getitem
  (wpAny_call_entry PyProof.Rows.slot_tuple_getitem ht.typeIs entry_tuple_getitem ?_ (args_tuple_getitem _ _)))
 show wpAny _ _ (Builtin.Tuple.tupleItemsOf (.ref t) >>=_) _ _ s
 refine wpAny_bind (tupleItemsOf_ ht ?_)
 refine wpAny_bind (wpAny_typeOf hTs ?_)
 rw[if_pos (by decide)]
 refine wpAny_bind (sliceApplied_gen hs pl pu ?_)
 show wpAny _ _ (if (((sIx items.size 0 lo:Nat):Int) ==0 && (1:Int) ==1 && (sIx items.size items.size hi - sIx items.size 0 lo) ==items.size)=true then _ else _) _ _ s
 rw[if_pos (by rw[hw.1,hw.2];simp)]
 refine wpAny_bind (m:=Builtin.Tuple.tupleIsExact _) (wpAny_bind (wpAny_typeOf ht.typeIs (wpAny_pure ?_)))
 rw[if_pos (beq_self_eq_true _)]
 first
  |exact wpAny_bind (wpAny_pure (wpAny_pure ⟨_,rfl,wpAny_pure h⟩))
  |exact wpAny_bind (wpAny_rule (wpAny_pure ⟨_,rfl,wpAny_pure h⟩))
end
section
variable {X:Cx} {e e1:Expr} {lo hi:Option Expr} {f f1:aq->R D} {fl fu:aq->R (Option Int)} {pos p2:Pos}
noncomputable def amW (K:PySem.W.Frag):V->Option Int->Option Int->Hp->VK->Prop:=λ x lo hi H Q=>∃a xs,x= .ref a/\SqT K H a xs/\
 (HT.sIx xs.length 0 lo=0/\HT.sIx xs.length xs.length hi=xs.length)/\Q (.ref a) H
theorem ag3:SlR X (amW X.K):=by
 intro pins s σ H x v vl vu lo hi sl Q I rx hs pl pu h
 refine bc λ zQ=>?_
 obtain⟨a,xs,rfl,hx,hw,q⟩:=h
 apply zQ;clear zQ
 obtain rfl:=rx
 refine bc λ zQ=>?_
 obtain⟨its,r,ht,hz⟩:=I.tuple hx
 apply zQ;clear zQ
 have hlen:its.toArray.size=xs.length:=by rw[z1c];exact r.length.symm
 exact⟨"tuple",_,PyProof.Rows.slot_tuple_getitem.lookup,ht.typeIs,DX ht hs pl pu (by rw[hlen];exact hw) ⟨.ref a,H,I,rfl,q⟩⟩
noncomputable abbrev amX:(Addr->Prop)->Hp->Option Int->Option Int->Prop:=λ Z Z a b=>a=b
noncomputable def ZM (X:Cx) (lo:Option Expr) (fo:aq->R (Option Int)):Prop:=PO X lo (tG X amX fo)
theorem PO.imp {t t':TO} (h:PO X lo t) (w:∀σ H Q,t' σ H Q->t σ H Q):PO X lo t':=λ pins s σ H Q I q=>h pins s σ H Q I (w σ H Q q)
theorem wI:ZM X none (λ Z=> .ok none):=by
 refine PO.imp po_none λ σ H Q h=>?_
 obtain⟨ρ,O,j,h⟩:=h
 exact fin h rfl
noncomputable def Q7:D->R (Option Int)
 | .int i=> .ok (some i)
 |_=> .bad
theorem wJ (h:DE X e1 f1):ZM X (some e1) (λ ρ=>(f1 ρ).bind Q7):=by
 refine PO.imp (po_some h) λ σ H Q h=>?_
 obtain⟨ρ,O,j,h⟩:=h
 refine go j h λ d v H1 e1 s1 r1 j1 h1=>?_
 cases d with
 |int i=>exact⟨i,r1.int,fin h1 rfl⟩
 |_=>exact h1.elim
noncomputable def kJ (ds:List D) (lo hi:Option Int):List D:=(ds.drop (HT.sIx ds.length 0 lo)).take (HT.sIx ds.length ds.length hi - HT.sIx ds.length 0 lo)
noncomputable def adi (d:D) (lo hi:Option Int):R D:=match d with
 | .tup ds=> .ok (.tup (kJ ds lo hi))
 |_=> .bad
noncomputable def wK (f:aq->R D) (fl fu:aq->R (Option Int)):aq->R D:=λ ρ=>(f ρ).bind λ d=>(fl ρ).bind λ l=>(fu ρ).bind λ u=>adi d l u
theorem UJ (he:DE X e f) (hl:ZM X lo fl) (hu:ZM X hi fu):DE X (.Subscript e (.Slice lo hi none p2) pos) (wK f fl fu):=by
 refine PE.imp (pe_slice (SlR.or sl_tup ag3) he hl hu) λ σ H Q h=>?_
 obtain⟨ρ,O,j,h⟩:=h
 refine go j h λ d v H1 e1 s1 r1 j1 h1=>?_
 refine go j1 h1 λ l l' H2 e2 s2 r2 j2 h2=>?_
 refine go j2 h2 λ u u' H3 e3 s3 r3 j3 h3=>?_
 have r2:l=l':=r2
 have r3:u=u':=r3
 subst r2 r3
 cases d with
 | tup ds=>
  have r1':=(r1.same s2).same s3
  obtain⟨a,xs,rfl,hq,rs⟩:=r1'.tup
  have hlen:=rs.length
  by_cases hw:HT.sIx xs.length 0 l=0/\HT.sIx xs.length xs.length u=xs.length
  ·refine .inr ⟨a,xs,rfl,hq,hw,?_⟩
   have e:kJ ds l u=ds:=by
    unfold kJ
    rw[hlen,hw.1,hw.2,List.drop_zero,Nat.sub_zero,<-hlen,List.take_length]
   have h3:good X (rD X) O (.ok (.tup (kJ ds l u))) σ H3 Q:=h3
   rw[e] at h3
   exact fin h3 (jM hq rs)
  ·refine .inl ⟨a,xs,rfl,hq,hw,λ p hp=>?_⟩
   refine h3 _ _ (Same.upd hp) (Rep.vP hp ?_)
   unfold kJ cutV
   rw[hlen]
   exact (rs.drop _).take _
 |_=>exact h3.elim
end
noncomputable def pickK {α:Type} (z:α) (sel:List (Sum Nat α)) (ws:List α):List α:=sel.map λ
 | .inl i=>ws.getD i z
 | .inr c=>c
inductive Sel:List (Sum Nat Value)->List (Sum Nat V)->List (Sum Nat D)->Prop
 |nil:Sel [] [] []
 |at (i:Nat) {a b c}:Sel a b c->Sel (.inl i::a) (.inl i::b) (.inl i::c)
 |non {a b c}:Sel a b c->Sel (.inr .none::a) (.inr .non::b) (.inr .non::c)
 |str (x:Str) (t:Tok) {a b c}:Sel a b c->Sel (.inr (.str x t)::a) (.inr (.str x)::b) (.inr (.str x)::c)
 |int (x:Int) (t:Tok) {a b c}:Sel a b c->Sel (.inr (.int x t)::a) (.inr (.int x)::b) (.inr (.int x)::c)
 |bl (x:Bool) {a b c}:Sel a b c->Sel (.inr (.bool x)::a) (.inr (.bl x)::b) (.inr (.bl x)::c)
theorem adk {zs:List V} {ws:List Value} (r:Vals zs ws) (i:Nat):RelV (zs.getD i .non) (ws.getD i .none):=by
 induction r generalizing i with
 |nil=>exact rfl
 | cons h _ ih=>
  cases i with
  |zero=>exact h
  |succ i=>exact ih i
theorem Sel.vals {a b c} (s:Sel a b c) {zs:List V} {ws:List Value} (r:Vals zs ws):Vals (pickK .non b zs) (pickK .none a ws):=by
 induction s with
 |nil=>exact .nil
 | «at» i _ ih=>exact .cons (adk r i) ih
 |non _ ih=>exact .cons rfl ih
 |str x t _ ih=>exact .cons ⟨t,rfl⟩ ih
 |int x t _ ih=>exact .cons ⟨t,rfl⟩ ih
 |bl x _ ih=>exact .cons rfl ih
section
variable {K:PySem.W.Frag} {O:Addr->Prop} {H:Hp}
theorem Q8:∀{ds:List D} {zs:List V},aY K O H ds zs->∀i:Nat,Rep K O H (ds.getD i .non) (zs.getD i .non)
 |[],zs,r,i=>by rw[r.nil_inv];exact qO
 | d::ds,zs,r,i=>by
  obtain⟨x,t,rfl,h1,h2⟩:=r.cons_inv
  cases i with
  |zero=>exact h1
  |succ i=>exact Q8 h2 i
theorem Sel.reps {a b c} (s:Sel a b c) {ds:List D} {zs:List V} (r:aY K O H ds zs):aY K O H (pickK .non c ds) (pickK .non b zs):=by
 induction s with
 |nil=>exact .nil
 | «at» i _ ih=>exact .cons (Q8 r i) ih
 |non _ ih=>exact .cons qO ih
 |str x t _ ih=>exact .cons (Nq x) ih
 |int x t _ ih=>exact .cons (cO x) ih
 |bl x _ ih=>exact .cons (gY x) ih
end
section
variable {X:Cx} {k n:Nat} {f:Addr} {fd:FuncData} {ps ks:List Str} {F:List D->R D} {x:Str} {p pos kpos:Pos} {e:Expr} {es:List Expr} {kws:List Keyword} {fa fk:aq->R (List D)} {fe:aq->R D} {nm:Option Str}
noncomputable def DK (X:Cx) (kws:List Keyword) (fk:aq->R (List D)):Prop:=PK X kws (tG X (Iz X) fk)
theorem PK.imp {t t':TA} (h:PK X kws t) (w:∀σ H Q,t' σ H Q->t σ H Q):PK X kws t':=λ pos pins s σ H Q I q=>h pos pins s σ H Q I (w σ H Q q)
theorem KJ:DK X [] (λ Z=> .ok []):=by
 refine PK.imp pk_nil λ σ H Q h=>?_
 obtain⟨ρ,O,j,h⟩:=h
 exact fin h .nil
theorem HX (he:DE X e fe) (hr:DK X kws fk):DK X (⟨nm,e,kpos⟩::kws) (ao fe fk):=by
 refine PK.imp (pk_cons he hr) λ σ H Q h=>?_
 obtain⟨ρ,O,j,h⟩:=h
 refine go j h λ d v H1 e1 s1 r1 j1 h1=>?_
 refine go j1 h1 λ ds vs H2 e2 s2 r2 j2 h2=>?_
 exact fin h2 (.cons (r1.same s2) r2)
theorem yH {α:Type} {z:α} {sel:List (Sum Nat α)} {ws:List α}:(pickK z sel ws).length=sel.length:=by unfold pickK;rw[z1g]
noncomputable def KB (K:PySem.W.Frag) (fd:FuncData) (ps ks:List Str) (sel:List (Sum Nat Value)):Prop:=∀(s:Shared) (us ws:List Value),K.In s.heap->us.length+sel.length=ps.length->ws.length=ks.length->BindsTo s fd ⟨us,ks.zip ws⟩ (ps.zip (us++pickK .none sel ws))
noncomputable def HY (F:List D->R D) (n m:Nat) (sel:List (Sum Nat D)) (fa fk:aq->R (List D)):aq->R D:=λ ρ=>(fa ρ).bind λ ds=>(fk ρ).bind λ zs=>if zs.length=m then bw F n (ds++pickK .non sel zs) else .bad
end
section
variable {X:Cx} {k n:Nat} {f:Addr} {fd:FuncData} {ps:List Str} {F:List D->R D} {x:Str} {p pos:Pos} {e:Expr} {es:List Expr} {fa:aq->R (List D)}
end
theorem len0 {α:Type} {l:List α} (h:l.length=0):l=[]:=List.eq_nil_of_length_eq_zero h
theorem BJ {α:Type} {l:List α} {n:Nat} (h:l.length=n+1):∃a m,l=a::m/\m.length=n:=by
 cases l with
 |nil=>simp at h
 |cons a m=>exact⟨a,m,rfl,by simpa using h⟩
section
variable {X:Cx} {k m n:Nat} {fd:FuncData} {ps ks:List Str} {F:List D->R D} {x:Str} {p pos:Pos} {e:Expr} {es:List Expr} {kws:List Keyword} {fa fk:aq->R (List D)}
end
section
variable {K:PySem.W.Frag} {kV doc pm cdv ct:Value} {an:Option Addr} {body:List Stmt} {scope:Scope} {d:Addr} {t:Tok} {q:Pos}
noncomputable def adl (q:Pos):Arguments:={posonlyargs:=[],args:=[⟨"p",none,q⟩],vararg:=none,kwonlyargs:=[⟨"manner",none,q⟩,⟨"marks",none,q⟩],kw_defaults:=[some (.Constant (.str "worth") 0 q),some (.Constant .none 0 q)],kwarg:=none,defaults:=[]}
example:KB K (PySem.W.fnOf "f" "f" (adl q) body scope .none kV doc pm an cdv ct) ["p","manner","marks"] ["marks","manner"] [.inl 1,.inl 0]:=by
 intro s us ws i hl hw
 have hl1:us.length=1:=by simpa using hl
 clear hl
 obtain⟨u,us',rfl,hl2⟩:=BJ hl1
 clear hl1
 cases len0 hl2
 obtain⟨w1,ws1,rfl,hw1⟩:=BJ hw
 clear hw
 obtain⟨w2,ws2,rfl,hw2⟩:=BJ hw1
 clear hw1
 cases len0 hw2
 exact .of_eq rfl
end
section
variable {X:Cx}
end
section
variable {K:PySem.W.Frag} {O O':Addr->Prop} {H:Hp}
end
section
variable {X:Cx} {e:Expr} {f:aq->R D} {pos:Pos}
end
section
variable {prog:Program} {w:World} {A:Around} {E:Value->Shared->Prop} {s:Shared} {t:Addr}
end
section
variable {X:Cx}
end
theorem Jw:fillsNumberSlot (.type "tuple") "mul" =pure false:=
 PySem.fillsNumberSlot_seq (id:= "tuple.__mul__") (r:=some (.builtin "tuple.__rmul__")) F.slot_tuple_mul.lookup (by decide +kernel) F.slot_tuple_rmul.lookup (by decide +kernel)
theorem UL:seqRepeat? (.type "tuple")=pure (some (.builtin "tuple.__mul__")):=by
 unfold seqRepeat?
 rw[PySem.seqSlot_of (T:= "tuple") (name:= "__mul__") (id:= "tuple.__mul__") F.slot_tuple_mul.lookup (by decide +kernel),PySem.seqSlot_of (T:= "tuple") (name:= "__rmul__") (id:= "tuple.__rmul__") F.slot_tuple_rmul.lookup (by decide +kernel)]
 rfl
theorem NZ (a:Int) (t:Tok) (l:Addr) (items:Array Value) (n:Nat) (dd:Option Addr) (sl:Array (Option Value)):
  Meets (Builtin.«int.__rmul__» ⟨[.int a t,.ref l],[]⟩) (λ Z R s=>s.heap.get? l=some {cls:= .type "tuple",dict:=dd,data:= .seq items n,slots:=sl}/\R (.ok (.ret Value.notImplemented)) s):=
 .of_wp λ prog w A R s h=>by obtain⟨hp,g,d,tk,os⟩:=s;obtain⟨hl,h⟩:=h;wp_walk;exact⟨_,rfl,h⟩
theorem aaN (l:Addr) (items:Array Value) (n:Nat) (dd:Option Addr) (sl:Array (Option Value)) (t:Tok):
  Meets (Builtin.«tuple.__mul__» ⟨[.ref l,.int 1 t],[]⟩) (λ Z R s=>s.heap.get? l=some {cls:= .type "tuple",dict:=dd,data:= .seq items n,slots:=sl}/\R (.ok (.ret (.ref l))) {s with heap:=s.heap,toks:=s.toks}):=
 .of_wp λ prog w A R s h=>by obtain⟨hp,g,d,tk,os⟩:=s;obtain⟨hl,h⟩:=h;have f1:=AutoSeq1.idx_int;have hc0:(items.isEmpty || (1:Int) ==1)=true:=(by simp);unfold Builtin.«tuple.__mul__»;wp_walk using wpAny_loadPart' hl;exact⟨_,rfl,h⟩
theorem aaO (l:Addr) (items:Array Value) (n:Nat) (dd:Option Addr) (sl:Array (Option Value)) (k:Int) (t:Tok) (hf:¬(decide (k < -(2 ^ 63)) || decide (k>=2 ^ 63))=true) (hc0:¬(items.isEmpty || k ==1)=true) (hc1:¬(decide (k<=0) || items.isEmpty)=true)
  (hc2:¬(items.size:Int)*k > (2 ^ 63 - 1) / 8) (hc3:¬Builtin.Tuple.tupleTooMany ((items.size:Int)*k)=true) (hsz:sizeOk (.seq (List.foldl (λ x1 x2=>x1++x2) #[] (List.replicate k.toNat items)))):
  Meets (Builtin.«tuple.__mul__» ⟨[.ref l,.int k t],[]⟩) (λ Z R s=>s.heap.get? l=some {cls:= .type "tuple",dict:=dd,data:= .seq items n,slots:=sl}/\R (.ok (.ret (.ref s.heap.objs.size))) {s with heap:=s.heap.push {cls:=Value.type "tuple",data:=Data.seq (List.foldl (λ x1 x2=>x1++x2) #[] (List.replicate k.toNat items))},toks:=s.toks}):=
 .of_wp λ prog w A R s h=>by
  obtain⟨hp,g,d,tk,os⟩:=s
  obtain⟨hl,h⟩:=h
  have f1:=AutoSeq1.idx_int
  unfold Builtin.«tuple.__mul__»
  wp_walk using wpAny_loadPart' hl
  refine wpAny_ite_false (by simpa using hf) ?_
  wp_walk using wpAny_loadPart' hl
  refine wpAny_ite_false (by simpa using hc2) ?_
  wp_walk using wpAny_loadPart' hl
  refine wpAny_ite_false (by simpa[sizeOk] using hsz) ?_
  wp_walk using wpAny_loadPart' hl
  exact⟨_,rfl,h⟩
section
variable {X:Cx}
theorem ag4:OpR X (binaryOp .Mult) (λ x y H Q=>∃a k xs,x= .ref a/\y= .int k/\SqT X.K H a xs/\xs≠[]/\1<=k/\k < 2 ^ 63/\xs.length*k.toNat<=sizeLine/\(k=1->Q (.ref a) H)/\
  (k≠1->∀p,H p=none->Q (.ref p) (upd H p (.tup (List.replicate k.toNat xs).flatten)))):=by
 intro pins s σ H x y v u Q I rx ry h
 refine bc λ zQ=>?_
 obtain⟨a,k,xs,rfl,rfl,hq,hx,h1,h2,hz,q1,q2⟩:=h
 apply zQ;clear zQ
 obtain rfl:=rx
 refine bc λ zQ=>?_
 obtain⟨t,rfl⟩:=ry
 obtain⟨its,r,p1,_⟩:=I.tuple hq
 obtain⟨⟨cls,dd,data,sl⟩,ho,hc,n,hd⟩:=id p1
 apply zQ;clear zQ
 simp only at hc hd
 subst hc hd
 have hlen:=r.length
 have hne:its≠[]:=λ z=>hx (by rw[z] at r;cases r;rfl)
 have hpos:0 < its.length:=by cases its with |nil=>exact absurd rfl hne |cons _ _=>simp
 have hemp:its.toArray.isEmpty=false:=by cases its with |nil=>exact absurd rfl hne |cons _ _=>simp
 refine wpAny_binaryOp_repeat_ref (T:= "tuple") (U:= "int") (by decide) ⟨_,ho,rfl⟩ (λ s'=>typeIs_int s' k t) Jw F.fills_int_mul F.slot_int_rmul UL F.slot_int_index.lookup
  (call_meets F.slot_int_rmul (typeIs_int s k t) F.entry_int_rmul (F.args_int_rmul_2 _ _) (NZ k t a its.toArray n dd sl) ⟨ho,rfl,⟨_,ho,rfl⟩,?_⟩)
 by_cases hk:k=1
 ·subst hk
  exact call_meets F.slot_tuple_mul ⟨_,ho,rfl⟩ F.entry_tuple_mul (F.args_tuple_mul_2 _ _) (aaN a its.toArray n dd sl t) ⟨ho,⟨.ref a,H,I,rfl,q1 rfl⟩⟩
 ·have hmul:(its.toArray.size:Int)*k=((xs.length*k.toNat:Nat):Int):=by
   rw[z1c,<-hlen,Int.natCast_mul,Int.toNat_of_nonneg (by exact Int.le_of_lt h1)]
  have hnew:List.foldl (λ x1 x2=>x1++x2) #[] (List.replicate k.toNat its.toArray)=(List.replicate k.toNat its).flatten.toArray:=by
   have:=foldl_rep its k.toNat []
   rw[List.nil_append] at this
   exact this
  have hs:sizeOk (.seq (List.foldl (λ x1 x2=>x1++x2) #[] (List.replicate k.toNat its.toArray))):=by
   rw[hnew]
   show (List.replicate k.toNat its).flatten.toArray.size<=sizeLine
   rw[z1c,len_rep,<-hlen,Nat.mul_comm];exact hz
  have hbig:(sizeLine:Nat)<=(2 ^ 63 - 1) / 8:=by decide
  refine call_meets F.slot_tuple_mul ⟨_,ho,rfl⟩ F.entry_tuple_mul (F.args_tuple_mul_2 _ _) (aaO a its.toArray n dd sl k t (by simp;exact alw h1 h2) (by rw[hemp];simp[hk]) (by rw[hemp];simp;assumption) (by rw[hmul];exact alx hz hbig) (by rw[hmul];unfold Builtin.Tuple.tupleTooMany;intro z;have z:=of_decide_eq_true z;exact akf z hz) hs) ⟨ho,?_⟩
  rw[hnew]
  refine⟨.ref s.heap.objs.size,_,I.laid (t':=s.toks) (o:= .tup (List.replicate k.toNat xs).flatten) (λ b ob q=>z1a _ q) (z0g _) ?_,rfl,q2 hk _ (I.hok.fresh (z0g _))⟩
  exact⟨by rw[len_rep,Nat.mul_comm];exact hz,_,r.rep k.toNat,IsTup.new _ _⟩
theorem Jx {K:PySem.W.Frag} {O:Addr->Prop} {H:Hp} {ds:List D} {xs:List V} (r:aY K O H ds xs):∀k:Nat,aY K O H (List.replicate k ds).flatten (List.replicate k xs).flatten
 |0=> .nil
 |k+1=>by rw[List.replicate_succ,List.replicate_succ,List.flatten_cons,List.flatten_cons];exact r.append (Jx r k)
noncomputable def Jy:D->D->R D
 | .int i,.int j=>jH (.int i) (.int j)
 | .tup ds,.int k=>if ds≠[]/\1<=k/\k < 2 ^ 63/\ds.length*k.toNat<=1000000 then .ok (.tup (List.replicate k.toNat ds).flatten) else .bad
 |_,_=> .bad
set_option tactic.hygienic true in
theorem Ia:lD X (binaryOp .Mult) Jy:=by
 obtain⟨r0,o0,c0⟩:=tu (X:=X)
 refine⟨_,OpR.or o0 ag4,λ ρ O σ H Q x y dx dy j0 rx ry h=>?_⟩
 cases dx <;> cases dy <;> first
  |exact h.elim
  |skip
 ·exact .inl (c0 ρ O σ H Q x y _ _ j0 rx ry h)
 ·rename_i ds k
  have h:good X (rD X) O (if ds≠[]/\1<=k/\k < 2 ^ 63/\ds.length*k.toNat<=1000000 then .ok (.tup (List.replicate k.toNat ds).flatten) else .bad) σ H Q:=h
  by_cases hc:ds≠[]/\1<=k/\k < 2 ^ 63/\ds.length*k.toNat<=1000000
  ·rw[if_pos hc] at h
   obtain⟨a,us,rfl,ha,r1⟩:=rx.tup
   obtain⟨h0,h1,h2,h3⟩:=hc
   refine .inr ⟨a,k,us,rfl,ry.int,ha,λ z=>h0 (by have:=r1.length;rw[z] at this;exact List.eq_nil_of_length_eq_zero this),h1,h2,by rw[<-r1.length];exact z0b h3 gk,λ z=>?_,λ z l hl=>?_⟩
   ·subst z
    have e:(List.replicate (1:Int).toNat ds).flatten=ds:=by simp
    rw[e] at h
    exact fin h (jM ha r1)
   ·exact h _ _ (Same.upd hl) (Rep.vP hl (Jx r1 _))
  ·rw[if_neg hc] at h;exact h.elim
end
section
variable {K:PySem.W.Frag} {O:Addr->Prop} {H:Hp}
end
section
variable {X:Cx}
end
noncomputable def qj:Bool->Heap->Addr->Addr->Nat->Prop
 |true,h,it,l,k=>h.IsTupleIter it l k
 |false,h,it,l,k=>h.IsListIter it l k
noncomputable def vG:Bool->Heap->Addr->Array Value->Prop
 |true,h,l,xs=>h.IsTuple l xs
 |false,h,l,xs=>h.IsList l xs
noncomputable def itC (t:Bool):String:=if t then "tuple_iterator" else "list_iterator"
noncomputable def Sq:Bool->PySem.W.Frag->Hp->Addr->List V->Prop
 |true,K,H,a,xs=>SqT K H a xs
 |false,K,H,a,xs=>SqL K H a xs
theorem qj.of {t:Bool} {h h':Heap} {it l:Addr} {k:Nat} (x:qj t h it l k) (q:∀o,h.get? it=some o->h'.get? it=some o):qj t h' it l k:=by
 cases t <;> (obtain⟨o,e,r⟩:=x;exact⟨o,q o e,r⟩)
theorem qj.obj {t:Bool} {h:Heap} {it l:Addr} {k:Nat} (x:qj t h it l k):∃o,h.get? it=some o/\∀v,o.data≠.cell v:=by
 cases t <;> (obtain⟨o,e,c,d⟩:=x;exact⟨o,e,λ v z=>by rw[d] at z;injection z⟩)
theorem qj.new {t:Bool} {h:Heap} {l:Addr} {it:Addr} (e:h.get? it=some {cls:= .type (itC t),data:= .fields #[.ref l,.int 0 0]}):qj t h it l 0:=by
 cases t <;> exact⟨_,e,rfl,rfl⟩
theorem vG.of {t:Bool} {h h':Heap} {l:Addr} {xs:Array Value} (x:vG t h l xs) (q:∀o,h.get? l=some o->h'.get? l=some o):vG t h' l xs:=by
 cases t <;> (obtain⟨o,e,r⟩:=x;exact⟨o,q o e,r⟩)
section
variable {prog:Program} {w:World} {A:Around} {E:Value->Shared->Prop} {s:Shared}
theorem nextT {it l:Addr} {i:Nat} {xs:Array Value} {v:Value} {Q:Value->Shared->Prop} (hit:s.heap.IsTupleIter it l i) (hl:s.heap.IsTuple l xs) (hv:xs[i]?=some v)
  (hQ:∀h',h'.IsTupleIter it l (i+1)->Heap.SameBut it s.heap h'->Q v {s with heap:=h'}):wpAny (model prog w) A (Builtin.SmallTypes.nextOf (.ref it)) Q E s:=by
 have ty:=hit.typeIs
 obtain⟨o,g,c,dt⟩:=hit
 obtain⟨p,gp,_,m,dp⟩:=hl
 unfold Builtin.SmallTypes.nextOf
 refine wpAny_bind (wpAny_callSpecial?_slot (name:=Str.ofString "__next__") ty F.slot_tuple_iterator_next (wpAny_call_entry F.slot_tuple_iterator_next ty F.entry_tuple_iterator_next ?_ (F.args_tuple_iterator_next_1 _)))
 show wpAny _ _ (field (.ref it) 0 >>=_) _ _ s;refine wpAny_bind (wpAny_field g dt (x:= .ref l) rfl ?_)
 show wpAny _ _ (if (Value.ref l ==Value.none)=true then _ else _) _ _ s;rw[if_neg (show ¬((Value.ref l ==Value.none)=true) from Bool.false_ne_true)]
 show wpAny _ _ (field (.ref it) 1 >>=_) _ _ s;refine wpAny_bind (wpAny_field g dt (x:= .int i 0) rfl ?_)
 show wpAny _ _ (seqItems? (.ref l) >>=_) _ _ s;refine wpAny_bind (wpAny_seqItems gp dp ?_)
 simp only[Int.toNat_natCast,hv]
 refine wpAny_bind (wpAny_setField g dt (by simp) (wpAny_pure ⟨v,rfl,wpAny_pure (hQ _ ⟨_,Heap.get?_update_self _ g (Obj.isFreed_of_fields (Obj.data_mapFields dt _)),(Obj.cls_mapFields ..).trans c,?_⟩ (Heap.SameBut.update ..))⟩))
 rw[Obj.data_mapFields dt];simp[rawInt]
theorem afm {it l:Addr} {i:Nat} {xs:Array Value} {Q:Value->Shared->Prop} (hh:A.handled=none) (hit:s.heap.IsTupleIter it l i) (hl:s.heap.IsTuple l xs) (hv:xs[i]?=none)
  (hE:∀h' e,Heap.ExtBut it s.heap h'->(∃o,h'.get? e=some o/\o.cls= .type "StopIteration")->E (.ref e) {s with heap:=h'}):wpAny (model prog w) A (Builtin.SmallTypes.nextOf (.ref it)) Q E s:=by
 have ty:=hit.typeIs
 obtain⟨o,g,c,dt⟩:=hit
 obtain⟨p,gp,_,m,dp⟩:=hl
 unfold Builtin.SmallTypes.nextOf
 refine wpAny_bind (wpAny_callSpecial?_slot (name:=Str.ofString "__next__") ty F.slot_tuple_iterator_next (wpAny_call_entry F.slot_tuple_iterator_next ty F.entry_tuple_iterator_next ?_ (F.args_tuple_iterator_next_1 _)))
 show wpAny _ _ (field (.ref it) 0 >>=_) _ _ s;refine wpAny_bind (wpAny_field g dt (x:= .ref l) rfl ?_)
 show wpAny _ _ (if (Value.ref l ==Value.none)=true then _ else _) _ _ s;rw[if_neg (show ¬((Value.ref l ==Value.none)=true) from Bool.false_ne_true)]
 show wpAny _ _ (field (.ref it) 1 >>=_) _ _ s;refine wpAny_bind (wpAny_field g dt (x:= .int i 0) rfl ?_)
 show wpAny _ _ (seqItems? (.ref l) >>=_) _ _ s;refine wpAny_bind (wpAny_seqItems gp dp ?_)
 simp only[Int.toNat_natCast,hv]
 refine wpAny_bind (wpAny_rule (wpAny_bind (wpAny_setField g dt (by simp) ?_)))
 show wpAny _ _ (newExc (.type "StopIteration") [] >>=_) _ _ _;refine wpAny_bind ?_
 simp only[newExc,newTuple];refine wpAny_bind (wpAny_newObj_type ?_ (by size_fits))
 refine wpAny_bind (m:=firstArgMember _ _) (wpAny_of_eq (a:=Value.none) (by first |(simp only[firstArgMember];rfl) |rfl) ?_)
 refine wpAny_newObj_type ?_ (by size_fits);unfold raiseNew
 refine wpAny_bind (wpAny_handled ?_);first |rw [show A.in1.handled=none from hh] |rw [hh]
 exact wpAny_bind (wpAny_pure (wpAny_throw (hE _ _ (((Heap.SameBut.update ..).extBut.push _).push _) ⟨_,z1f _ rfl,rfl⟩)))
theorem T6 {t:Bool} {it l:Addr} {i:Nat} {xs:Array Value} {v:Value} {Q:Value->Shared->Prop} (hit:qj t s.heap it l i) (hl:vG t s.heap l xs) (hv:xs[i]?=some v)
  (hQ:∀h',qj t h' it l (i+1)->Heap.SameBut it s.heap h'->Q v {s with heap:=h'}):wpAny (model prog w) A (Builtin.SmallTypes.nextOf (.ref it)) Q E s:=by
 cases t with
 |true=>exact nextT hit hl hv hQ
 |false=>exact wpAny_nextOf_list_item hit hl hv hQ
theorem Jz {t:Bool} {it l:Addr} {i:Nat} {xs:Array Value} {Q:Value->Shared->Prop} (hh:A.handled=none) (hit:qj t s.heap it l i) (hl:vG t s.heap l xs) (hv:xs[i]?=none)
  (hE:∀h' e,Heap.ExtBut it s.heap h'->(∃o,h'.get? e=some o/\o.cls= .type "StopIteration")->E (.ref e) {s with heap:=h'}):wpAny (model prog w) A (Builtin.SmallTypes.nextOf (.ref it)) Q E s:=by
 cases t with
 |true=>exact afm hh hit hl hv hE
 |false=>exact wpAny_nextOf_list_end hh hit hl hv hE
theorem T7 {t:Bool} {l:Addr} {xs:Array Value} {Q:Value->Shared->Prop} (hl:vG t s.heap l xs) (hQ:Q (.ref s.heap.objs.size) {s with heap:=s.heap.push {cls:= .type (itC t),data:= .fields #[.ref l,.int 0 0]}}):
  wpAny (model prog w) A (pyIter (.ref l)) Q E s:=by
 cases t with
 |true=>exact wpAny_pyIter_tuple hl hQ
 |false=>exact wpAny_pyIter_list hl hQ
theorem UW {T:Addr} {arr:Array Value} {x:Value} {k:Nat} {Q:Unit->Shared->Prop} (hT:s.heap.get? T=some {cls:= .type "tuple",data:= .seq arr})
  (h:∀h',h'.get? T=some {cls:= .type "tuple",data:= .seq (arr.setIfInBounds k x)}->Heap.SameBut T s.heap h'->Q () {s with heap:=h'}) (hs:arr.size<=sizeLine:=by size_fits):wpAny (model prog w) A (updateSeq T (·.setIfInBounds k x)) Q E s:=by
 refine wpAny_updateSeq (hz:=hs) (_hz':=by simpa using Nat.le_succ_of_le hs) hT rfl (h _ (by rw[Heap.get?_update_self _ hT rfl];simp[Obj.mapSeq]) (Heap.SameBut.update ..))
end
section
variable {X:Cx} {pins:List (Addr×Obj)} {σ:St} {H:Hp} {s:Shared}
theorem _root_.L2.Inv.fp {b:Addr} {h':Heap} (I:Inv X pins σ H s) (f:FpOk X pins H b) (sb:Heap.SameBut b s.heap h'):Inv X pins σ H {s with heap:=h'}:=
 I.turned (t':=s.toks) (λ c o hc e=>(sb.2 c hc).trans e) f.1 f.2.1 f.2.2.2.1 f.2.2.2.2.1 f.2.2.2.2.2
theorem _root_.L2.Inv.fpE {b:Addr} {h':Heap} (I:Inv X pins σ H s) (f:FpOk X pins H b) (sb:Heap.ExtBut b s.heap h'):Inv X pins σ H {s with heap:=h'}:=
 I.turned (t':=s.toks) (λ c o hc e=>sb c o hc e) f.1 f.2.1 f.2.2.2.1 f.2.2.2.2.1 f.2.2.2.2.2
theorem _root_.L2.FpOk.upd {b p:Addr} {o:HO} (f:FpOk X pins H b) (n:b≠p):FpOk X pins (L2.upd H p o) b:=⟨by rw[upd_ne n];exact f.1,f.2⟩
theorem _root_.L2.Inv.sq {t:Bool} {l:Addr} {xs:List V} (I:Inv X pins σ H s) (q:Sq t X.K H l xs):∃its:List Value,Vals xs its/\vG t s.heap l its.toArray:=by
 cases t with
 |true=>obtain⟨its,r,p,_⟩:=I.tuple q;exact⟨its,r,p⟩
 |false=>obtain⟨its,r,p,_⟩:=I.list q;exact⟨its,r,p.isList⟩
theorem _root_.L2.Inv.U0 {t:Bool} {l:Addr} {xs ys:List V} (I:Inv X pins σ H s) (q:Sq t X.K H l xs) (r:Sq t X.K H l ys):xs=ys:=by
 cases t with
 |true=>exact I.tuple_inj q r
 |false=>exact I.list_inj q r
end
noncomputable abbrev BK (h:Heap) (T:Addr) (arr:Array Value):Prop:=h.get? T=some {cls:= .type "tuple",data:= .seq arr}
structure Z2 (h:Heap) (z TI TO i1 i2:Addr) (t1 t2:Bool) (l1 l2:Addr) (k:Nat):Prop where
 z:IsZip h z TI TO .none
 ti:BK h TI #[.ref i1,.ref i2]
 to:∃a b,BK h TO #[a,b]
 s1:qj t1 h i1 l1 k
 s2:qj t2 h i2 l2 k
noncomputable def afn (K:PySem.W.Frag) (t1:Bool) (l1:Addr) (t2:Bool) (l2:Addr):It:=
 ⟨λ i H=>∃xs ys x y,Sq t1 K H l1 xs/\xs[i]?=some x/\Sq t2 K H l2 ys/\ys[i]?=some y,
  λ i H v H'=>∃p x y,H p=none/\v= .ref p/\H'=upd H p (.tup [x,y])/\(∀xs,Sq t1 K H l1 xs->xs[i]?=some x)/\∀ys,Sq t2 K H l2 ys->ys[i]?=some y,
  λ i H=>∃xs ys,Sq t1 K H l1 xs/\Sq t2 K H l2 ys/\(xs.length<=i\/ys.length<=i)⟩
section
variable {X:Cx} {pins:List (Addr×Obj)} {σ:St} {H:Hp} {s:Shared} {A':Around} {E:Value->Shared->Prop}
theorem adn:2<=sizeLine:=z0b (by decide) (z0e j5)
theorem ado {z TI TO i1 i2 l1 l2:Addr} {t1 t2:Bool} {k:Nat} {xs ys:List V} {x y:V} {Q:Value->Shared->Prop} (I:Inv X pins σ H s)
  (fz:FpOk X pins H z) (fO:FpOk X pins H TO) (f1:FpOk X pins H i1) (f2:FpOk X pins H i2)
  (n1:TI≠z) (n2:TO≠z) (n3:i1≠z) (n4:i2≠z) (n5:TI≠TO) (n6:TI≠i1) (n7:TI≠i2) (n8:TO≠i1) (n9:TO≠i2) (n10:i1≠i2)
  (st:Z2 s.heap z TI TO i1 i2 t1 t2 l1 l2 k) (q1:Sq t1 X.K H l1 xs) (e1:xs[k]?=some x) (q2:Sq t2 X.K H l2 ys) (e2:ys[k]?=some y)
  (hQ:∀h',Inv X pins σ (upd H s.heap.objs.size (.tup [x,y])) {s with heap:=h'}->IsZip h' z TI TO (rawInt s.heap.objs.size)->BK h' TI #[.ref i1,.ref i2]->(∃a b,BK h' TO #[a,b])->
   qj t1 h' i1 l1 (k+1)->qj t2 h' i2 l2 (k+1)->Q (.ref s.heap.objs.size) {s with heap:=h'}):
  wpAny (model X.prog X.w) A' (Builtin.«zip.__next__» ⟨[.ref z],[]⟩) (λ fin s'=>∃v,fin= .done (.ret v)/\Q v s') E s:=by
 refine bc λ zQ=>?_
 obtain⟨hz,hTI,⟨a,b,hTO⟩,h1,h2⟩:=st
 apply zQ;clear zQ
 show wpAny _ _ (field (.ref z) 2 >>=_) _ _ _;refine wpAny_bind (wpAny_field hz rfl (x:= .bool false) rfl ?_)
 show wpAny _ _ (field (.ref z) 3 >>=_) _ _ _;refine wpAny_bind (wpAny_field hz rfl (x:= .ref TI) rfl ?_)
 refine wpAny_bind (wpAny_seqItems hTI rfl ?_)
 show wpAny _ _ (Builtin.SmallTypes.ownedTupleIsFree (.ref z) >>=_) _ _ _;refine wpAny_bind ?_
 unfold Builtin.SmallTypes.ownedTupleIsFree
 refine wpAny_bind (wpAny_field hz rfl (x:= .none) rfl (wpAny_pure ?_));simp only[if_true]
 refine wpAny_bind (wpAny_rule (wpAny_bind (wpAny_field hz rfl (x:= .ref TO) rfl ?_)))
 refine wpAny_bind (wpAny_setField_rec hz (by simp) λ g1 z1 b1=>?_)
 replace z1:IsZip g1 z TI TO .ellipsis:=z1
 have I1:=I.fp fz b1
 refine wpAny_bind ?_
 simp only[List.zipIdx_cons,List.zipIdx_nil,List.forIn_cons,List.forIn_nil]
 refine bc λ zQ=>?_
 obtain⟨us,r1,p1⟩:=I1.sq q1
 obtain⟨u,hu,ru⟩:=r1.get e1
 apply zQ;clear zQ
 refine wpAny_bind (wpAny_bind (wpAny_onRaise ?_));show wpAny _ _ (Builtin.SmallTypes.nextOf (.ref i1) >>=_) _ _ _
 refine wpAny_bind (T6 (h1.of λ o e=>b1.extBut _ _ n3 e) p1 (v:=u) (by simpa using hu) λ g2 s12 b2=>wpAny_pure ?_)
 have I2:=I1.fp f1 b2
 have o2:BK g2 TO #[a,b]:=b2.extBut _ _ n8 (b1.extBut _ _ n2 hTO)
 refine wpAny_bind (wpAny_seqItems o2 rfl (wpAny_bind (UW o2 λ g3 o3 b3=>wpAny_bind (wpAny_letGo (wpAny_pure ?_)))))
 replace o3:BK g3 TO #[u,b]:=o3
 have I3:=I2.fp fO b3
 refine bc λ zQ=>?_
 obtain⟨vs,r2,p2⟩:=I3.sq q2
 obtain⟨v,hv,rv⟩:=r2.get e2
 apply zQ;clear zQ
 refine wpAny_bind (wpAny_bind (wpAny_onRaise ?_));show wpAny _ _ (Builtin.SmallTypes.nextOf (.ref i2) >>=_) _ _ _
 refine wpAny_bind (T6 (h2.of λ o e=>b3.extBut _ _ (Ne.symm n9) (b2.extBut _ _ (Ne.symm n10) (b1.extBut _ _ n4 e))) p2 (v:=v) (by simpa using hv) λ g4 s24 b4=>wpAny_pure ?_)
 have I4:=I3.fp f2 b4
 have o4:BK g4 TO #[u,b]:=b4.extBut _ _ n9 o3
 refine wpAny_bind (wpAny_seqItems o4 rfl (wpAny_bind (UW o4 λ g5 o5 b5=>wpAny_bind (wpAny_letGo (wpAny_pure (wpAny_pure ?_))))))
 replace o5:BK g5 TO #[u,v]:=o5
 have I5:=I4.fp fO b5
 refine wpAny_bind (wpAny_seqItems o5 rfl (wpAny_bind (wpAny_newTuple ?_)))
 have sz:g5.objs.size=s.heap.objs.size:=by rw[b5.1,b4.1,b3.1,b2.1,b1.1]
 have I6:Inv X pins σ (upd H g5.objs.size (.tup [x,y])) {s with heap:=g5.push {cls:= .type "tuple",data:= .seq #[u,v]}}:=
  I5.laid (t':=s.toks) (λ b u e=>z1a _ e) (z0g _) ⟨adn,[u,v],.cons ru (.cons rv .nil),⟨_,z1f _ rfl,rfl,_,rfl⟩⟩
 have z5:IsZip g5 z TI TO .ellipsis:=b5.extBut _ _ (Ne.symm n2) (b4.extBut _ _ (Ne.symm n4) (b3.extBut _ _ (Ne.symm n2) (b2.extBut _ _ (Ne.symm n3) z1)))
 have lt:∀{c o},g5.get? c=some o->c≠g5.objs.size:=λ e=>Nat.ne_of_lt (z2c e)
 show wpAny _ _ (Builtin.SmallTypes.ownedTupleHandOut (.ref z) (.ref g5.objs.size) >>=_) _ _ _;refine wpAny_bind ?_
 unfold Builtin.SmallTypes.ownedTupleHandOut
 refine wpAny_bind (wpAny_setField_rec (z1a _ z5) (by simp) λ g7 z7 b7=>?_)
 replace z7:IsZip g7 z TI TO (rawInt g5.objs.size):=z7
 have I7:=I6.fp (fz.upd (lt z5)) b7
 refine wpAny_setField_rec z7 (by simp) λ g8 z8 b8=>?_
 replace z8:IsZip g8 z TI TO (rawInt g5.objs.size):=z8
 have I8:=I7.fp (fz.upd (lt z5)) b8
 have up:∀c o,c≠z->g5.get? c=some o->g8.get? c=some o:=λ c o c1 e=>b8.extBut _ _ c1 (b7.extBut _ _ c1 (z1a _ e))
 refine wpAny_pure ⟨_,rfl,?_⟩
 rw[sz] at I8 z8
 show Q (.ref g5.objs.size) _
 rw[sz]
 refine hQ g8 I8 z8 (up _ _ n1 (b5.extBut _ _ n5 (b4.extBut _ _ n7 (b3.extBut _ _ n5 (b2.extBut _ _ n6 (b1.extBut _ _ n1 hTI)))))) ⟨u,v,up _ _ n2 o5⟩ ?_ ?_
 ·exact s12.of λ o e=>up _ _ n3 (b5.extBut _ _ (Ne.symm n8) (b4.extBut _ _ n10 (b3.extBut _ _ (Ne.symm n8) e)))
 ·exact s24.of λ o e=>up _ _ n4 (b5.extBut _ _ (Ne.symm n9) e)
theorem afo {z TI TO i1 i2 l1 l2:Addr} {t1 t2:Bool} {k:Nat} {xs ys:List V} {Q:Fin->Shared->Prop} (hh:A'.handled=none) (I:Inv X pins σ H s)
  (fz:FpOk X pins H z) (fO:FpOk X pins H TO) (f1:FpOk X pins H i1) (f2:FpOk X pins H i2)
  (n1:TI≠z) (n2:TO≠z) (n3:i1≠z) (n4:i2≠z) (n5:TI≠TO) (n6:TI≠i1) (n7:TI≠i2) (n8:TO≠i1) (n9:TO≠i2) (n10:i1≠i2)
  (st:Z2 s.heap z TI TO i1 i2 t1 t2 l1 l2 k) (q1:Sq t1 X.K H l1 xs) (q2:Sq t2 X.K H l2 ys) (en:xs.length<=k\/ys.length<=k)
  (hE:∀h' e,Inv X pins σ H {s with heap:=h'}->(∃o,h'.get? e=some o/\o.cls= .type "StopIteration")->E (.ref e) {s with heap:=h'}):
  wpAny (model X.prog X.w) A' (Builtin.«zip.__next__» ⟨[.ref z],[]⟩) Q E s:=by
 refine bc λ zQ=>?_
 obtain⟨hz,hTI,⟨a,b,hTO⟩,h1,h2⟩:=st
 apply zQ;clear zQ
 show wpAny _ _ (field (.ref z) 2 >>=_) _ _ _;refine wpAny_bind (wpAny_field hz rfl (x:= .bool false) rfl ?_)
 show wpAny _ _ (field (.ref z) 3 >>=_) _ _ _;refine wpAny_bind (wpAny_field hz rfl (x:= .ref TI) rfl ?_)
 refine wpAny_bind (wpAny_seqItems hTI rfl ?_)
 show wpAny _ _ (Builtin.SmallTypes.ownedTupleIsFree (.ref z) >>=_) _ _ _;refine wpAny_bind ?_
 unfold Builtin.SmallTypes.ownedTupleIsFree
 refine wpAny_bind (wpAny_field hz rfl (x:= .none) rfl (wpAny_pure ?_));simp only[if_true]
 refine wpAny_bind (wpAny_rule (wpAny_bind (wpAny_field hz rfl (x:= .ref TO) rfl ?_)))
 refine wpAny_bind (wpAny_setField_rec hz (by simp) λ g1 z1 b1=>?_)
 replace z1:IsZip g1 z TI TO .ellipsis:=z1
 have I1:=I.fp fz b1
 refine wpAny_bind ?_
 simp only[List.zipIdx_cons,List.zipIdx_nil,List.forIn_cons,List.forIn_nil]
 refine bc λ zQ=>?_
 obtain⟨us,r1,p1⟩:=I1.sq q1
 apply zQ;clear zQ
 have leave:∀{g g':Heap} {e:Addr} {c:Addr},Inv X pins σ H {s with heap:=g}->IsZip g z TI TO .ellipsis->FpOk X pins H c->c≠z->Heap.ExtBut c g g'->(∃o,g'.get? e=some o/\o.cls= .type "StopIteration")->
   wpAny (model X.prog X.w) A' (setField (.ref z) 0 .none) (λ Z s'=>E (.ref e) s') E {s with heap:=g'}:=λ {g g' e c} Ig zg fc nc eb ⟨oe,hoe,hce⟩=>by
  have zg':IsZip g' z TI TO .ellipsis:=eb _ _ (Ne.symm nc) zg
  have hez:e≠z:=λ q=>by subst q;rw[zg'] at hoe;(injection hoe with aD;subst aD);simp at hce
  have Ig':Inv X pins σ H {s with heap:=g'}:=Ig.fpE fc eb
  exact wpAny_setField_rec zg' (by simp) λ g'' Z b''=>hE g'' e (Ig'.fp fz b'') ⟨oe,b''.extBut _ _ hez hoe,hce⟩
 refine wpAny_bind (wpAny_bind (wpAny_onRaise ?_));show wpAny _ _ (Builtin.SmallTypes.nextOf (.ref i1) >>=_) _ _ _
 have h1':=h1.of (h':=g1) λ o e=>b1.extBut _ _ n3 e
 by_cases hx:xs.length<=k
 ·exact wpAny_bind (Jz hh h1' p1 (by have:=r1.length;simp;exact QZ this hx) λ g2 e eb ex=>leave I1 z1 f1 n3 eb ex)
 ·have hy:ys.length<=k:=by rcases en with h |h;exact absurd h hx;exact h
  refine bc λ zQ=>?_
  obtain⟨u,hu,ru⟩:=r1.get (i:=k) (x:=xs[k]'(by exact agr hx)) (List.getElem?_eq_getElem (by exact agr hx))
  apply zQ;clear zQ
  refine wpAny_bind (T6 h1' p1 (v:=u) (by simpa using hu) λ g2 s12 b2=>wpAny_pure ?_)
  have I2:=I1.fp f1 b2
  have o2:BK g2 TO #[a,b]:=b2.extBut _ _ n8 (b1.extBut _ _ n2 hTO)
  refine wpAny_bind (wpAny_seqItems o2 rfl (wpAny_bind (UW o2 λ g3 o3 b3=>wpAny_bind (wpAny_letGo (wpAny_pure ?_)))))
  have I3:=I2.fp fO b3
  refine bc λ zQ=>?_
  obtain⟨vs,r2,p2⟩:=I3.sq q2
  apply zQ;clear zQ
  have z3:IsZip g3 z TI TO .ellipsis:=b3.extBut _ _ (Ne.symm n2) (b2.extBut _ _ (Ne.symm n3) z1)
  refine wpAny_bind (wpAny_bind (wpAny_onRaise ?_));show wpAny _ _ (Builtin.SmallTypes.nextOf (.ref i2) >>=_) _ _ _
  exact wpAny_bind (Jz hh (h2.of λ o e=>b3.extBut _ _ (Ne.symm n9) (b2.extBut _ _ (Ne.symm n10) (b1.extBut _ _ n4 e))) p2 (by have:=r2.length;simp;exact akg en this hx) λ g4 e eb ex=>leave I3 z3 f2 n4 eb ex)
end
theorem adp {P:Program} {w:World} {K:PySem.W.Frag} {Dr:List Expr} {kk} {pp:Pos} {z TI TO i1 i2 l1 l2:Addr} {t1 t2:Bool}
  (n1:TI≠z) (n2:TO≠z) (n3:i1≠z) (n4:i2≠z) (n5:TI≠TO) (n6:TI≠i1) (n7:TI≠i2) (n8:TO≠i1) (n9:TO≠i2) (n10:i1≠i2):
  Turn P w K (.Tuple Dr kk pp) (afn K t1 l1 t2 l2) [z,TI,TO,i1,i2] z (λ i h=>Z2 h z TI TO i1 i2 t1 t2 l1 l2 i) where
 mem:=by simp
 obj :=λ i h st b hb=>by
  refine bc λ zQ=>?_
  obtain⟨hz,hTI,⟨x,y,hTO⟩,h1,h2⟩:=st
  apply zQ;clear zQ
  simp only[List.mem_cons,List.not_mem_nil,or_false] at hb
  refine bc λ zQ=>?_
  rcases hb with rfl |rfl |rfl |rfl |rfl
  ·apply zQ;clear zQ
   exact⟨_,hz,λ v q=>by have q':Data.fields _=Data.cell v:=q;injection q'⟩
  ·apply zQ;clear zQ
   exact⟨_,hTI,λ v q=>by have q':Data.seq _=Data.cell v:=q;injection q'⟩
  ·apply zQ;clear zQ
   exact⟨_,hTO,λ v q=>by have q':Data.seq _=Data.cell v:=q;injection q'⟩
  ·apply zQ;clear zQ
   exact h1.obj
  ·apply zQ;clear zQ
   exact h2.obj
 keep:=λ i h h' st k=>by
  refine bc λ zQ=>?_
  obtain⟨hz,hTI,⟨x,y,hTO⟩,h1,h2⟩:=st
  apply zQ;clear zQ
  exact⟨k _ (by simp) _ hz,k _ (by simp) _ hTI,⟨x,y,k _ (by simp) _ hTO⟩,h1.of λ o e=>k _ (by simp) o e,h2.of λ o e=>k _ (by simp) o e⟩
 item := by
  intro X hP hw hK hc i pins s σ H E I hf st hg
  subst hP hw hK
  refine bc λ zQ=>?_
  obtain⟨xs,ys,x,y,q1,e1,q2,e2⟩:=hg
  apply zQ;clear zQ
  have hT:s.TypeIs (.ref z) "zip" :=⟨_,st.z,rfl⟩
  unfold pyNext
  refine wpAny_bind (wpAny_attempt (wpAny_callSpecial?_slot (name:=Str.ofString "__next__") hT F.slot_zip_next (wpAny_call_entry F.slot_zip_next hT F.entry_zip_next
   (ado I (hf z (by simp)) (hf TO (by simp)) (hf i1 (by simp)) (hf i2 (by simp)) n1 n2 n3 n4 n5 n6 n7 n8 n9 n10 st q1 e1 q2 e2 λ h' I' z' ti' to' s1' s2'=>wpAny_pure ⟨_,rfl,?_⟩) (F.args_zip_next_1 _))))
  have hp:H s.heap.objs.size=none:=I.hok.fresh (z0g _)
  have nz:∀b,b∈[z,TI,TO,i1,i2]->b≠s.heap.objs.size:=λ b hb q=>by
   refine bc λ zQ=>?_
   obtain⟨o,e,_⟩:∃o,s.heap.get? b=some o/\True:=by
    obtain⟨hz,hTI,⟨x,y,hTO⟩,h1,h2⟩:=st
    simp only[List.mem_cons,List.not_mem_nil,or_false] at hb
    refine bc λ zQ=>?_
    rcases hb with rfl |rfl |rfl |rfl |rfl
    ·apply zQ;clear zQ
     exact⟨_,hz,trivial⟩
    ·apply zQ;clear zQ
     exact⟨_,hTI,trivial⟩
    ·apply zQ;clear zQ
     exact⟨_,hTO,trivial⟩
    ·apply zQ;clear zQ
     obtain⟨o,e,_⟩:=h1.obj;exact⟨o,e,trivial⟩
    ·apply zQ;clear zQ
     obtain⟨o,e,_⟩:=h2.obj;exact⟨o,e,trivial⟩
   apply zQ;clear zQ
   exact absurd (z2c e) (by rw[q];exact Nat.lt_irrefl _)
  refine wpAny_letOwnedTupleGo_zip z' λ h'' z'' b''=>⟨.ref s.heap.objs.size,upd H s.heap.objs.size (.tup [x,y]),I'.fp ((hf z (by simp)).upd (nz z (by simp))) b'',rfl,⟨_,x,y,hp,rfl,rfl,λ xs' q=>by rw[I.U0 q q1];exact e1,λ ys' q=>by rw[I.U0 q q2];exact e2⟩,?_,λ b hb=>?_⟩
  ·obtain⟨a,b,to'⟩:=to'
   exact⟨z'',b''.extBut _ _ n1 ti',⟨a,b,b''.extBut _ _ n2 to'⟩,s1'.of λ o e=>b''.extBut _ _ n3 e,s2'.of λ o e=>b''.extBut _ _ n4 e⟩
  ·rw[upd_ne (nz b hb)];exact (hf b hb).1
 done:=by
  intro X hP hw hK hc i pins s σ H E I hf st hg
  subst hP hw hK
  refine bc λ zQ=>?_
  obtain⟨xs,ys,q1,q2,en⟩:=hg
  apply zQ;clear zQ
  have hT:s.TypeIs (.ref z) "zip" :=⟨_,st.z,rfl⟩
  unfold pyNext
  refine wpAny_bind (wpAny_attempt (wpAny_callSpecial?_slot (name:=Str.ofString "__next__") hT F.slot_zip_next (wpAny_call_entry F.slot_zip_next hT F.entry_zip_next
   (afo (I.ok.hd hc) I (hf z (by simp)) (hf TO (by simp)) (hf i1 (by simp)) (hf i2 (by simp)) n1 n2 n3 n4 n5 n6 n7 n8 n9 n10 st q1 q2 en λ h' e I' ex=>?_) (F.args_zip_next_1 _))))
  refine bc λ zQ=>?_
  obtain⟨o,ho,ec⟩:=ex
  apply zQ;clear zQ
  exact wpAny_bind (wpAny_isInstance (T:= "StopIteration") (b:=true) ⟨o,ho,ec⟩ isSubtype_stop (wpAny_pure ⟨rfl,I'⟩))
 self:=λ Z Z Z Z Z st h=>wpAny_pyIter_zip st.z h
noncomputable abbrev itR (t:Bool) (l:Addr):Obj:={cls:= .type (itC t),data:= .fields #[.ref l,.int 0 0]}
noncomputable abbrev zA1 (h:Heap) (t1:Bool) (l1:Addr):Heap:=h.push (itR t1 l1)
noncomputable abbrev zA2 (h:Heap) (t1:Bool) (l1:Addr) (t2:Bool) (l2:Addr):Heap:=(zA1 h t1 l1).push (itR t2 l2)
noncomputable abbrev zA3 (h:Heap) (t1:Bool) (l1:Addr) (t2:Bool) (l2:Addr):Heap:=(zA2 h t1 l1 t2 l2).push {cls:= .type "tuple",data:= .seq #[.ref h.objs.size,.ref (zA1 h t1 l1).objs.size]}
noncomputable abbrev zA4 (h:Heap) (t1:Bool) (l1:Addr) (t2:Bool) (l2:Addr):Heap:=(zA3 h t1 l1 t2 l2).push {cls:= .type "tuple",data:= .seq #[.none,.none]}
noncomputable abbrev ZP (h:Heap) (t1:Bool) (l1:Addr) (t2:Bool) (l2:Addr):Heap:=(zA4 h t1 l1 t2 l2).push {cls:= .type "zip",data:= .fields #[.none,.bool false,.bool false,.ref (zA2 h t1 l1 t2 l2).objs.size,.ref (zA3 h t1 l1 t2 l2).objs.size]}
theorem aaP (t1:Bool) (l1:Addr) (t2:Bool) (l2:Addr) (xs ys:Array Value):Meets (Builtin.«zip.__new__» ⟨[.type "zip",.ref l1,.ref l2],[]⟩)
  (λ Z R s=>vG t1 s.heap l1 xs/\vG t2 s.heap l2 ys/\R (.ok (.ret (.ref (zA4 s.heap t1 l1 t2 l2).objs.size))) {s with heap:=ZP s.heap t1 l1 t2 l2}):=
 .of_wp λ prog w A R s h=>by
  obtain⟨hp,g,d,tk,os⟩:=s
  obtain⟨k1,k2,h⟩:=h
  have hsub:=sub_zip
  have L1:vG t1 (Shared.heap ⟨hp,g,d,tk,os⟩) l1 xs:=k1
  have L2:vG t2 (Shared.heap ⟨zA1 hp t1 l1,g,d,tk,os⟩) l2 ys:=k2.of λ o e=>z1a _ e
  wp_walk using T7 L1,T7 L2
  exact⟨_,rfl,h⟩
section
variable {prog:Program} {w:World} {A:Around} {E:Value->Shared->Prop} {s:Shared}
theorem adq {t1 t2:Bool} {l1 l2:Addr} {xs ys:Array Value} {Q:Value->Shared->Prop} (k1:vG t1 s.heap l1 xs) (k2:vG t2 s.heap l2 ys)
  (h:∀h',Z2 h' (s.heap.objs.size+4) (s.heap.objs.size+2) (s.heap.objs.size+3) s.heap.objs.size (s.heap.objs.size+1) t1 t2 l1 l2 0->(∀c o,s.heap.get? c=some o->h'.get? c=some o)->Q (.ref (s.heap.objs.size+4)) {s with heap:=h'}):
  wpAny (model prog w) A (call (.type "zip") [.ref l1,.ref l2]) Q E s:=by
 refine callType_new F.called_zip (by decide) (F.typeCall_zip_2 _ _) (F.newCall_zip_2 _ _) (λ obj=>F.args_object_init_3 obj _ _) F.entry_zip_new (aaP t1 l1 t2 l2 xs ys) ⟨k1,k2,?_⟩
 have z1:(zA1 s.heap t1 l1).objs.size=s.heap.objs.size+1:=Heap.size_push ..
 have z2:(zA2 s.heap t1 l1 t2 l2).objs.size=s.heap.objs.size+2:=by rw[Heap.size_push,z1]
 have z3:(zA3 s.heap t1 l1 t2 l2).objs.size=s.heap.objs.size+3:=by rw[Heap.size_push,z2]
 have z4:(zA4 s.heap t1 l1 t2 l2).objs.size=s.heap.objs.size+4:=by rw[Heap.size_push,z3]
 have a5:(ZP s.heap t1 l1 t2 l2).get? (zA4 s.heap t1 l1 t2 l2).objs.size=some _:=z1f _ rfl
 have a4:(ZP s.heap t1 l1 t2 l2).get? (zA3 s.heap t1 l1 t2 l2).objs.size=some _:=z1a _ (z1f _ rfl)
 have a3:(ZP s.heap t1 l1 t2 l2).get? (zA2 s.heap t1 l1 t2 l2).objs.size=some _:=z1a _ (z1a _ (z1f _ rfl))
 have a2:(ZP s.heap t1 l1 t2 l2).get? (zA1 s.heap t1 l1).objs.size=some (itR t2 l2):=z1a _ (z1a _ (z1a _ (z1f _ rfl)))
 have a1:(ZP s.heap t1 l1 t2 l2).get? s.heap.objs.size=some (itR t1 l1):=z1a _ (z1a _ (z1a _ (z1a _ (z1f _ rfl))))
 show _/\_
 rw[z2,z3,z4] at a5
 rw[z1,z2] at a3
 rw[z3] at a4
 rw[z1] at a2
 rw[z4]
 exact⟨⟨_,a5,rfl⟩,h _ ⟨a5,a3,⟨_,_,a4⟩,.new a1,.new a2⟩ λ c o e=>z1a _ (z1a _ (z1a _ (z1a _ (z1a _ e))))⟩
end
theorem ai4:bootBuiltins "zip" =some (.type "zip"):=by decide +kernel
section
variable {X:Cx} {Dr:List Expr} {kk:Nat} {pp:Pos} {a b:Expr} {p pos:Pos}
noncomputable def alF (K:PySem.W.Frag) (ta:TA):TI:=λ σ H R=>ta σ H λ vs H1=>∃t1 l1 t2 l2,vs=[.ref l1,.ref l2]/\(∃xs,Sq t1 K H1 l1 xs)/\(∃ys,Sq t2 K H1 l2 ys)/\R (afn K t1 l1 t2 l2) H1
theorem ag5 {ta:TA} (hg:Gl X "zip") (hm:X.mg "zip" =none) (ha:PA X [a,b] ta) (he:autoParam (starEach [a,b] X.env=(false,eval a X.env)::starEach [b] X.env) bD._auto_1) (hpl:autoParam ((backTo pos (starEach [b] X.env)).any (·.1)=false) bD._auto_1):
  PI X (.Tuple Dr kk pp) (.Call (.Name "zip" p) [a,b] [] pos) (alF X.K ta):=by
 intro pins s σ H R I h
 refine Call_ (ld_blt I hg hm ai4 (PyProof.Rows.callWith_type1 (thn (ha pos pins s σ H _ I h) λ us s1 ⟨vs,H1,I1,r1,q1⟩=>?_) he hpl))
 refine bc λ zQ=>?_
 obtain⟨t1,l1,t2,l2,e,⟨xs,w1⟩,⟨ys,w2⟩,q⟩:=q1
 apply zQ;clear zQ
 subst e
 cases r1 with
 | cons r rr=>
  cases rr with
  | cons r' rr=>
   cases rr
   obtain rfl:=r
   obtain rfl:=r'
   refine bc λ zQ=>?_
   obtain⟨vs1,_,p1⟩:=I1.sq w1
   obtain⟨vs2,_,p2⟩:=I1.sq w2
   apply zQ;clear zQ
   refine adq p1 p2 λ h' st k=>wpAny_pyIter_zip st.z ⟨s1.heap.objs.size+4,[s1.heap.objs.size+4,s1.heap.objs.size+2,s1.heap.objs.size+3,s1.heap.objs.size,s1.heap.objs.size+1],_,_,H1,rfl,I1.kept (t':=s1.toks) k,adp ?_ ?_ ?_ ?_ ?_ ?_ ?_ ?_ ?_ ?_,st,λ c hc=>(by
    have hle:s1.heap.objs.size<=c:=by
     simp only[List.mem_cons,List.not_mem_nil,or_false] at hc
     rcases hc with rfl |rfl |rfl |rfl |rfl <;> first |exact z0g _ |exact Nat.le_add_right _ _
    exact I1.fpOk hle (I1.hok.fresh hle)),q⟩
   all_goals (show @Ne Nat _ _;omega)
end
noncomputable def JB (xs ys:List D):List D:=(xs.zip ys).map λ p=> .tup [p.1,p.2]
noncomputable def zip2:List D->R (List D):=on2 λ x y=>(jC x).bind λ xs=>(jC y).bind λ ys=> .ok (JB xs ys)
section
variable {K:PySem.W.Frag} {O:Addr->Prop} {H:Hp}
theorem ai5 (x y:D):zip2 [x,y]=((jC x).bind λ xs=>(jC y).bind λ ys=> .ok (JB xs ys)):=rfl
structure Src (K:PySem.W.Frag) (O:Addr->Prop) (H:Hp) (t:Bool) (a:Addr) (ds:List D):Prop where
 ex:∃vs,Sq t K H a vs/\aY K O H ds vs
 no:t=false->¬O a
theorem U3 {d:D} {v:V} {ds:List D} (r:Rep K O H d v) (h:jC d= .ok ds):∃t a,v= .ref a/\Src K O H t a ds:=by
 cases d with
 |tup es=>cases h;obtain⟨a,xs,rfl,q,rs⟩:=r.tup;exact⟨true,a,rfl,⟨xs,q,rs⟩,λ z=>by injection z⟩
 |lst es=>cases h;obtain⟨a,xs,rfl,q,n,rs⟩:=r.lst;exact⟨false,a,rfl,⟨xs,q,rs⟩,λ Z=>n⟩
 |_=>injection h
theorem Src.go {O':Addr->Prop} {H':Hp} {t:Bool} {a:Addr} {ds:List D} (s:Src K O H t a ds) (q:iK K O H O' H'):∃vs,Sq t K H' a vs/\aY K O' H' ds vs:=by
 obtain⟨vs,h,r⟩:=s.ex
 cases t with
 |true=>exact⟨vs,SqT.ext q.ext h,r.go q⟩
 |false=>exact⟨vs,SqL.ext q.ext (s.no rfl) h,r.go q⟩
theorem afp {xs ys:List D} {i:Nat} {d:D} (h:(JB xs ys)[i]?=some d):∃x y,xs[i]?=some x/\ys[i]?=some y/\d= .tup [x,y]:=by
 unfold JB at h
 rw[z2b] at h
 cases e:(xs.zip ys)[i]? with
 |none=>rw[e] at h;injection h
 |some p=>rw[e] at h;(injection h with aD;subst aD);obtain⟨h1,h2⟩:=List.getElem?_zip_eq_some.mp e;exact⟨_,_,h1,h2,rfl⟩
theorem YR.zip2 {t1 t2:Bool} {a1 a2:Addr} {xs ys:List D} (s1:Src K O H t1 a1 xs) (s2:Src K O H t2 a2 ys):YR K O H (afn K t1 a1 t2 a2) (JB xs ys):=by
 intro O' H' q i
 refine bc λ zQ=>?_
 obtain⟨v1,q1,r1⟩:=s1.go q
 obtain⟨v2,q2,r2⟩:=s2.go q
 apply zQ;clear zQ
 refine⟨λ d e=>?_,λ e=>⟨v1,v2,q1,q2,?_⟩⟩
 ·obtain⟨x,y,e1,e2,rfl⟩:=afp e
  refine bc λ zQ=>?_
  obtain⟨u1,g1,w1⟩:=r1.get e1
  obtain⟨u2,g2,w2⟩:=r2.get e2
  apply zQ;clear zQ
  refine⟨⟨v1,v2,u1,u2,q1,g1,q2,g2⟩,λ x H2 y=>?_⟩
  refine bc λ zQ=>?_
  obtain⟨p,x1,x2,hp,rfl,rfl,k1,k2⟩:=y
  apply zQ;clear zQ
  have k1:=k1 _ q1
  have k2:=k2 _ q2
  rw[g1] at k1;(injection k1 with aD;subst aD)
  rw[g2] at k2;(injection k2 with aD;subst aD)
  exact⟨Same.upd hp,jM (SqT.of upd_same) ((aY.cons w1 (.cons w2 .nil)).same (Same.upd hp))⟩
 ·rw[<-r1.length,<-r2.length]
  simp only[JB,z1g,List.length_zip] at e
  exact akh e
end
section
variable {X:Cx} {Dr:List Expr} {kk:Nat} {pp:Pos} {a b:Expr} {p pos:Pos} {fa:aq->R (List D)}
theorem N5 (hg:Gl X "zip") (hm:X.mg "zip" =none) (ha:DA X [a,b] fa) (he:autoParam (starEach [a,b] X.env=(false,eval a X.env)::starEach [b] X.env) bD._auto_1) (hpl:autoParam ((backTo pos (starEach [b] X.env)).any (·.1)=false) bD._auto_1):
  DI X (.Tuple Dr kk pp) (.Call (.Name "zip" p) [a,b] [] pos) (λ ρ=>(fa ρ).bind zip2):=by
 refine PI.imp (ag5 hg hm ha he hpl) λ σ H Q q=>?_
 refine bc λ zQ=>?_
 obtain⟨ρ,O,j,q⟩:=q
 apply zQ;clear zQ
 refine go j q λ ds vs H1 e1 s1 r1 j1 h1=>?_
 replace h1:=aiP h1
 refine bc λ zQ=>?_
 obtain⟨x,y,rfl,h1⟩:=h1
 apply zQ;clear zQ
 ·skip
  refine bc λ zQ=>?_
  obtain⟨v1,v2,rfl,w1,w2⟩:=r1.two
  apply zQ;clear zQ
  refine bc λ zQ=>?_
  cases ex:jC x with
  |bad=>rw[ex] at h1;exact h1.elim
  |err c=>rw[ex] at h1;cases x <;> injection ex
  | ok xs=>
   apply zQ;clear zQ
   refine bc λ zQ=>?_
   cases ey:jC y with
   |bad=>rw[ex,R.bF,ey] at h1;exact h1.elim
   |err c=>cases y <;> injection ey
   | ok ys=>
    apply zQ;clear zQ
    rw[ex,R.bF,ey,R.bF] at h1
    refine bc λ zQ=>?_
    obtain⟨t1,a1,rfl,c1⟩:=U3 w1 ex
    obtain⟨t2,a2,rfl,c2⟩:=U3 w2 ey
    obtain⟨vs1,k1,_⟩:=c1.ex
    obtain⟨vs2,k2,_⟩:=c2.ex
    apply zQ;clear zQ
    exact⟨t1,a1,t2,a2,rfl,⟨vs1,k1⟩,⟨vs2,k2⟩,fin h1 (YR.zip2 c1 c2)⟩
end
section
variable {X:Cx} {pins:List (Addr×Obj)} {σ:St} {H:Hp} {s:Shared} {A':Around} {E:Value->Shared->Prop}
end
section
variable {prog:Program} {w:World} {A:Around} {E:Value->Shared->Prop} {s:Shared}
end
section
variable {X:Cx} {Dr:List Expr} {kk:Nat} {pp:Pos} {a b c:Expr} {p pos:Pos}
end
section
variable {K:PySem.W.Frag} {O:Addr->Prop} {H:Hp}
theorem aY.three {d e f:D} {xs:List V} (r:aY K O H [d,e,f] xs):∃x y z,xs=[x,y,z]/\Rep K O H d x/\Rep K O H e y/\Rep K O H f z:=by
 obtain⟨x,t,rfl,h1,h2⟩:=r.cons_inv
 obtain⟨y,z,rfl,h3,h4⟩:=h2.two
 exact⟨x,y,z,rfl,h1,h3,h4⟩
end
section
variable {X:Cx} {Dr:List Expr} {kk:Nat} {pp:Pos} {a b c:Expr} {p pos:Pos} {fa:aq->R (List D)}
theorem XR {x:D} {c:Str} (h:jC x= .err c):False:=by cases x <;> injection h
end
section
variable {X:Cx}
theorem N6:∀{ns:List Int} {its:List Value},Vals (ns.map V.int) its->IntsAre its ns
 |[],_,r=>by cases r;exact .nil
 | n::ns,_,r=>by
  cases r with
  |cons h t=>obtain⟨tk,rfl⟩:=h;exact .cons n tk (N6 t)
theorem Em {K:PySem.W.Frag} {O:Addr->Prop} {H:Hp}:∀{ds:List D} {ns:List Int} {vs:List V},intsOf ds=some ns->aY K O H ds vs->vs=ns.map V.int
 |[],ns,vs,e,r=>by (injection e with aD;subst aD);exact r.nil_inv
 | d ::ds,ns,vs,e,r=>by
  obtain⟨x,t,rfl,h1,h2⟩:=r.cons_inv
  cases d with
  | int i=>
   have e:(intsOf ds).map (i:: ·)=some ns:=e
   cases q:intsOf ds with
   |none=>rw[q] at e;injection e
   |some l=>rw[q] at e;(injection e with aD;subst aD);rw[h1.int,Em q h2];rfl
  |_=>injection e
theorem En {K:PySem.W.Frag} {O:Addr->Prop} {H:Hp}:∀{ns:List Int},aY K O H (ns.map D.int) (ns.map V.int)
 |[]=> .nil
 |_::_=> .cons (cO _) En
variable {pos:Pos}
end
noncomputable def Ite (K:PySem.W.Frag) (t:Bool) (l:Addr):It:=
 ⟨λ i H=>∃xs x,Sq t K H l xs/\xs[i]?=some x,
  λ i H v H'=>∃p x,H p=none/\v= .ref p/\H'=upd H p (.tup [.int (i:Int),x])/\∀xs,Sq t K H l xs->xs[i]?=some x,
  λ i H=>∃xs,Sq t K H l xs/\xs.length<=i⟩
section
variable {X:Cx} {pins:List (Addr×Obj)} {σ:St} {H:Hp} {s:Shared} {A':Around} {E:Value->Shared->Prop}
theorem adt {e it l:Addr} {t:Bool} {k:Nat} {xs:List V} {x:V} {old:Value} {Q:Value->Shared->Prop} (I:Inv X pins σ H s) (fe:FpOk X pins H e) (fi:FpOk X pins H it) (ne:e≠it)
  (he:IsEnum s.heap e it k old) (hs:qj t s.heap it l k) (q:Sq t X.K H l xs) (ex:xs[k]?=some x)
  (hQ:∀h' u,Inv X pins σ (upd H s.heap.objs.size (.tup [.int (k:Int),x])) {s with heap:=h',toks:=s.toks+1}->IsEnumOut h' e it ((k:Int)+1) u s.heap.objs.size->qj t h' it l (k+1)->Q (.ref s.heap.objs.size) {s with heap:=h',toks:=s.toks+1}):
  wpAny (model X.prog X.w) A' (Builtin.«enumerate.__next__» ⟨[.ref e],[]⟩) (λ fin s'=>∃v,fin= .done (.ret v)/\Q v s') E s:=by
 obtain⟨us,r1,p1⟩:=I.sq q
 obtain⟨u,hu,ru⟩:=r1.get ex
 obtain⟨hp,g,d,tk,os⟩:=s
 show wpAny _ _ (field (.ref e) 2 >>=_) _ _ _;refine wpAny_bind (wpAny_field he rfl (x:= .ref it) rfl ?_)
 refine wpAny_bind (T6 hs p1 (v:=u) (by simpa using hu) λ g1 s1 b1=>?_)
 have I1:=I.fp fi b1
 replace b1:Heap.SameBut it hp g1:=b1
 have e1:IsEnum g1 e it k old:=(b1.2 e ne).trans he
 show wpAny _ _ (field (.ref e) 3 >>=_) _ _ ⟨g1,g,d,tk,os⟩;refine wpAny_bind (wpAny_field e1 rfl (x:=rawInt k) rfl ?_)
 show wpAny _ _ (field (.ref e) 4 >>=_) _ _ ⟨g1,g,d,tk,os⟩;refine wpAny_bind (wpAny_field e1 rfl (x:= .none) rfl ?_)
 show wpAny _ _ (mkInt k >>=_) _ _ ⟨g1,g,d,tk,os⟩;refine wpAny_bind (wpAny_mkInt ?_)
 have I1':Inv X pins σ H ⟨g1,g,d,tk+1,os⟩:=Inv.tok (s:=⟨g1,g,d,tk,os⟩) I1 (tk+1)
 show wpAny _ _ (setField (.ref e) 3 (rawInt ((k:Int)+1)) >>=_) _ _ ⟨g1,g,d,tk+1,os⟩
 refine wpAny_bind (wpAny_setField_rec e1 (by simp) λ g2 e2 b2=>?_)
 have I2:=I1'.fp fe b2
 replace b2:Heap.SameBut e g1 g2:=b2
 replace e2:IsEnum g2 e it ((k:Int)+1) old:=e2
 show wpAny _ _ (setField (.ref e) 4 .none >>=_) _ _ ⟨g2,g,d,tk+1,os⟩
 refine wpAny_bind (wpAny_setField_rec e2 (by simp) λ g3 e3 b3=>?_)
 have I3:=I2.fp fe b3
 replace b3:Heap.SameBut e g2 g3:=b3
 replace e3:IsEnum g3 e it ((k:Int)+1) old:=e3
 show wpAny _ _ (newTuple [.int k tk,u] >>=_) _ _ ⟨g3,g,d,tk+1,os⟩;refine wpAny_bind (wpAny_newTuple ?_)
 have sz:g3.objs.size=hp.objs.size:=by rw[b3.1,b2.1,b1.1]
 have lt:e≠g3.objs.size:=Nat.ne_of_lt (z2c e3)
 have I4:Inv X pins σ (upd H g3.objs.size (.tup [.int (k:Int),x])) ⟨g3.push {cls:= .type "tuple",data:= .seq #[.int k tk,u]},g,d,tk+1,os⟩:=
  Inv.laid (s:=⟨g3,g,d,tk+1,os⟩) (t':=tk+1) I3 (λ b u e=>z1a _ e) (z0g _) ⟨adn,[.int k tk,u],.cons ⟨tk,rfl⟩ (.cons ru .nil),⟨_,z1f _ rfl,rfl,_,rfl⟩⟩
 have e4:IsEnum (g3.push {cls:= .type "tuple",data:= .seq #[.int k tk,u]}) e it ((k:Int)+1) old:=z1a _ e3
 have s4:qj t (g3.push {cls:= .type "tuple",data:= .seq #[.int k tk,u]}) it l (k+1):=s1.of λ o z=>z1a _ (b3.extBut _ _ (Ne.symm ne) (b2.extBut _ _ (Ne.symm ne) z))
 show wpAny _ _ (Builtin.SmallTypes.ownedTupleIsFree (.ref e) >>=_) _ _ ⟨g3.push {cls:= .type "tuple",data:= .seq #[.int k tk,u]},g,d,tk+1,os⟩
 generalize g3.push {cls:= .type "tuple",data:= .seq #[.int k tk,u]}=g4 at *
 refine wpAny_bind ?_
 unfold Builtin.SmallTypes.ownedTupleIsFree
 refine wpAny_bind (wpAny_field e4 rfl (x:= .none) rfl (wpAny_pure ?_));simp only[if_true]
 refine wpAny_bind (wpAny_rule (wpAny_bind (wpAny_field e4 rfl (x:=old) rfl ?_)))
 refine wpAny_bind (wpAny_setField_rec e4 (by simp) λ g5 e5 b5=>?_)
 have I5:=I4.fp (fe.upd lt) b5
 replace b5:Heap.SameBut e g4 g5:=b5
 replace e5:IsEnum g5 e it ((k:Int)+1) u:=e5
 show wpAny _ _ (Builtin.SmallTypes.ownedTupleHandOut (.ref e) (.ref g3.objs.size) >>=_) _ _ ⟨g5,g,d,tk+1,os⟩;refine wpAny_bind ?_
 unfold Builtin.SmallTypes.ownedTupleHandOut
 refine wpAny_bind (wpAny_setField_rec e5 (by simp) λ g6 e6 b6=>?_)
 have I6:=I5.fp (fe.upd lt) b6
 replace b6:Heap.SameBut e g5 g6:=b6
 replace e6:IsEnumOut g6 e it ((k:Int)+1) u g3.objs.size:=e6
 refine wpAny_setField_rec e6 (by simp) λ g7 e7 b7=>?_
 have I7:=I6.fp (fe.upd lt) b7
 replace b7:Heap.SameBut e g6 g7:=b7
 replace e7:IsEnumOut g7 e it ((k:Int)+1) u g3.objs.size:=e7
 refine wpAny_bind (wpAny_letGo (wpAny_pure ⟨_,rfl,?_⟩))
 rw[sz] at I7 e7
 show Q (.ref g3.objs.size) _
 rw[sz]
 exact hQ g7 u I7 e7 (s4.of λ o z=>b7.extBut _ _ (Ne.symm ne) (b6.extBut _ _ (Ne.symm ne) (b5.extBut _ _ (Ne.symm ne) z)))
end
theorem adu {P:Program} {w:World} {K:PySem.W.Frag} {Dr:List Expr} {kk} {pp:Pos} {e it l:Addr} {t:Bool} (ne:e≠it):
  Turn P w K (.Tuple Dr kk pp) (Ite K t l) [e,it] e (λ i h=>(∃old,IsEnum h e it i old)/\qj t h it l i) where
 mem:=by simp
 obj :=λ i h st b hb=>by
  refine bc λ zQ=>?_
  obtain⟨⟨old,he⟩,hs⟩:=st
  apply zQ;clear zQ
  simp only[List.mem_cons,List.not_mem_nil,or_false] at hb
  refine bc λ zQ=>?_
  rcases hb with rfl |rfl
  ·apply zQ;clear zQ
   exact⟨_,he,λ v q=>by have q':Data.fields _=Data.cell v:=q;injection q'⟩
  ·apply zQ;clear zQ
   exact hs.obj
 keep:=λ i h h' st k=>by
  refine bc λ zQ=>?_
  obtain⟨⟨old,he⟩,hs⟩:=st
  apply zQ;clear zQ
  exact⟨⟨old,k _ (by simp) _ he⟩,hs.of λ o z=>k _ (by simp) o z⟩
 item := by
  intro X hP hw hK hc i pins s σ H E I hf st hg
  subst hP hw hK
  refine bc λ zQ=>?_
  obtain⟨⟨old,he⟩,hs⟩:=st
  obtain⟨xs,x,q,ex⟩:=hg
  apply zQ;clear zQ
  have hT:s.TypeIs (.ref e) "enumerate" :=⟨_,he,rfl⟩
  have hp:H s.heap.objs.size=none:=I.hok.fresh (z0g _)
  have nz:∀b,b∈[e,it]->b≠s.heap.objs.size:=λ b hb z=>by
   refine bc λ zQ=>?_
   obtain⟨o,eo⟩:∃o,s.heap.get? b=some o:=by
    simp only[List.mem_cons,List.not_mem_nil,or_false] at hb
    refine bc λ zQ=>?_
    rcases hb with rfl |rfl
    ·apply zQ;clear zQ
     exact⟨_,he⟩
    ·apply zQ;clear zQ
     obtain⟨o,eo,_⟩:=hs.obj;exact⟨o,eo⟩
   apply zQ;clear zQ
   exact absurd (z2c eo) (by rw[z];exact Nat.lt_irrefl _)
  unfold pyNext
  refine wpAny_bind (wpAny_attempt (wpAny_callSpecial?_slot (name:=Str.ofString "__next__") hT F.slot_enumerate_next (wpAny_call_entry F.slot_enumerate_next hT F.entry_enumerate_next
   (adt I (hf e (by simp)) (hf it (by simp)) ne he hs q ex λ h' u I' e' s'=>wpAny_pure ⟨_,rfl,?_⟩) (F.args_enumerate_next_1 _))))
  refine wpAny_letOwnedTupleGo_enum e' λ h'' e'' b''=>⟨.ref s.heap.objs.size,upd H s.heap.objs.size (.tup [.int (i:Int),x]),I'.fp ((hf e (by simp)).upd (nz e (by simp))) b'',rfl,⟨_,x,hp,rfl,rfl,λ xs' q'=>by rw[I.U0 q' q];exact ex⟩,⟨⟨u,by simpa using e''⟩,s'.of λ o z=>b''.extBut _ _ (Ne.symm ne) z⟩,λ b hb=>?_⟩
  rw[upd_ne (nz b hb)];exact (hf b hb).1
 done:=by
  intro X hP hw hK hc i pins s σ H E I hf st hg
  subst hP hw hK
  refine bc λ zQ=>?_
  obtain⟨⟨old,he⟩,hs⟩:=st
  obtain⟨xs,q,en⟩:=hg
  obtain⟨us,r1,p1⟩:=I.sq q
  apply zQ;clear zQ
  have hT:s.TypeIs (.ref e) "enumerate" :=⟨_,he,rfl⟩
  unfold pyNext
  refine wpAny_bind (wpAny_attempt (wpAny_callSpecial?_slot (name:=Str.ofString "__next__") hT F.slot_enumerate_next (wpAny_call_entry F.slot_enumerate_next hT F.entry_enumerate_next ?_ (F.args_enumerate_next_1 _))))
  show wpAny _ _ (field (.ref e) 2 >>=_) _ _ _;refine wpAny_bind (wpAny_field he rfl (x:= .ref it) rfl ?_)
  refine wpAny_bind (Jz (I.ok.hd hc) hs p1 (by have:=r1.length;simp;exact QZ this en) λ g1 x eb bW=>?_)
  refine bc λ zQ=>?_
  obtain⟨o,ho,ec⟩:=bW
  apply zQ;clear zQ
  exact wpAny_bind (wpAny_isInstance (T:= "StopIteration") (b:=true) ⟨o,ho,ec⟩ isSubtype_stop (wpAny_pure ⟨rfl,I.fpE (hf it (by simp)) eb⟩))
 self:=λ Z Z Z Z Z st h=>by
  refine bc λ zQ=>?_
  obtain⟨⟨old,he⟩,_⟩:=st
  apply zQ;clear zQ
  exact wpAny_pyIter_enum he h
theorem XS (t:Bool) (l:Addr) (xs:Array Value):Meets (Builtin.«enumerate.__new__» ⟨[.type "enumerate",.ref l],[]⟩)
  (λ Z R s=>vG t s.heap l xs/\R (.ok (.ret (.ref (s.heap.push (itR t l)).objs.size))) {s with heap:=(s.heap.push (itR t l)).push {cls:= .type "enumerate",data:= .fields #[.none,.bool false,.ref s.heap.objs.size,rawInt 0,.none,.none]}}):=
 .of_wp λ prog w A R s h=>by
  obtain⟨hp,g,d,tk,os⟩:=s
  obtain⟨k1,h⟩:=h
  have hsub:=sub_enumerate
  have L1:vG t (Shared.heap ⟨hp,g,d,tk,os⟩) l xs:=k1
  wp_walk using T7 L1
  refine wpAny_stack_any λ st=>wpAny_pure ?_
  generalize PySem.Builtin.SmallTypes.calledThroughType.match_1 _ _ _ _=bb
  cases bb <;> (wp_walk using T7 L1;exact⟨_,rfl,h⟩)
section
variable {prog:Program} {w:World} {A:Around} {E:Value->Shared->Prop} {s:Shared}
theorem aaQ {t:Bool} {l:Addr} {xs:Array Value} {Q:Value->Shared->Prop} (k1:vG t s.heap l xs)
  (h:∀h',IsEnum h' (s.heap.objs.size+1) s.heap.objs.size 0 .none->qj t h' s.heap.objs.size l 0->(∀c o,s.heap.get? c=some o->h'.get? c=some o)->Q (.ref (s.heap.objs.size+1)) {s with heap:=h'}):
  wpAny (model prog w) A (call (.type "enumerate") [.ref l]) Q E s:=by
 refine callType_new F.called_enumerate (by decide) (F.typeCall_enumerate_1 _) (F.newCall_enumerate_1 _) (λ obj=>F.args_object_init_2 obj _) F.entry_enumerate_new (XS t l xs) ⟨k1,?_⟩
 have z1:(s.heap.push (itR t l)).objs.size=s.heap.objs.size+1:=Heap.size_push ..
 have a2:((s.heap.push (itR t l)).push {cls:= .type "enumerate",data:= .fields #[.none,.bool false,.ref s.heap.objs.size,rawInt 0,.none,.none]}).get? (s.heap.push (itR t l)).objs.size=some _:=z1f _ rfl
 show _/\_
 rw[z1] at a2 |-
 exact⟨⟨_,a2,rfl⟩,h _ a2 (.new (z1a _ (z1f _ rfl))) λ c o e=>z1a _ (z1a _ e)⟩
end
section
variable {X:Cx} {Dr:List Expr} {kk:Nat} {pp:Pos} {a:Expr} {p pos:Pos} {fa:aq->R (List D)}
noncomputable def alG (K:PySem.W.Frag) (ta:TA):TI:=λ σ H R=>ta σ H λ vs H1=>∃t l,vs=[.ref l]/\(∃xs,Sq t K H1 l xs)/\R (Ite K t l) H1
theorem ag6 {ta:TA} (hg:Gl X "enumerate") (hm:X.mg "enumerate" =none) (ha:PA X [a] ta) (he:autoParam (starEach [a] X.env=(false,eval a X.env)::starEach [] X.env) bD._auto_1) (hpl:autoParam ((backTo pos (starEach [] X.env)).any (·.1)=false) bD._auto_1):
  PI X (.Tuple Dr kk pp) (.Call (.Name "enumerate" p) [a] [] pos) (alG X.K ta):=by
 intro pins s σ H R I h
 refine Call_ (ld_blt I hg hm boot_enumerate (PyProof.Rows.callWith_type1 (thn (ha pos pins s σ H _ I h) λ us s1 ⟨vs,H1,I1,r1,q1⟩=>?_) he hpl))
 refine bc λ zQ=>?_
 obtain⟨t,l,e,⟨xs,w1⟩,q⟩:=q1
 apply zQ;clear zQ
 subst e
 cases r1 with
 | cons r rr=>
  cases rr
  obtain rfl:=r
  refine bc λ zQ=>?_
  obtain⟨vs1,_,p1⟩:=I1.sq w1
  apply zQ;clear zQ
  refine aaQ p1 λ h' e' s' k=>wpAny_pyIter_enum e' ⟨s1.heap.objs.size+1,[s1.heap.objs.size+1,s1.heap.objs.size],_,_,H1,rfl,I1.kept (t':=s1.toks) k,adu ?_,⟨⟨_,e'⟩,s'⟩,λ c hc=>(by
    have hle:s1.heap.objs.size<=c:=by
     simp only[List.mem_cons,List.not_mem_nil,or_false] at hc
     rcases hc with rfl |rfl <;> first |exact z0g _ |exact Nat.le_add_right _ _
    exact I1.fpOk hle (I1.hok.fresh hle)),q⟩
  all_goals (show @Ne Nat _ _;exact aki)
noncomputable def sU:Nat->List D->List D
 |_,[]=>[]
 |n,d::ds=> .tup [.int (n:Int),d]::sU (n+1) ds
theorem ag7 (n:Nat):sU n []=[]:=rfl
theorem Ib (n:Nat) (d:D) (ds:List D):sU n (d::ds)= .tup [.int (n:Int),d]::sU (n+1) ds:=rfl
theorem Q9:∀{ds:List D} {n i:Nat} {d:D},(sU n ds)[i]?=some d->∃x,ds[i]?=some x/\d= .tup [.int ((n+i:Nat):Int),x]
 |[],_,_,_,h=>by simp[ag7] at h
 |x::ds,n,0,d,h=>by simp[Ib] at h;exact⟨x,rfl,by rw[<-h];rfl⟩
 | x::ds,n,i+1,d,h=>by
  rw[Ib,List.getElem?_cons_succ] at h
  obtain⟨y,e1,e2⟩:=Q9 h
  exact⟨y,by rw[List.getElem?_cons_succ];exact e1,by rw[e2,show n+1+i=n+(i+1) by exact Nat.add_right_comm _ _ _]⟩
theorem Ra:∀{ds:List D} {n:Nat},(sU n ds).length=ds.length
 |[],_=>rfl
 |_::ds,n=>by rw[Ib,List.length_cons,Ra,List.length_cons]
noncomputable def yI:List D->R (List D):=on1 λ x=>(jC x).bind λ xs=> .ok (sU 0 xs)
theorem ag8 (x:D):yI [x]=((jC x).bind λ xs=> .ok (sU 0 xs)):=rfl
theorem YR.enum {K:PySem.W.Frag} {O:Addr->Prop} {H:Hp} {t:Bool} {a:Addr} {xs:List D} (s1:Src K O H t a xs):YR K O H (Ite K t a) (sU 0 xs):=by
 intro O' H' q i
 obtain⟨v1,q1,r1⟩:=s1.go q
 refine⟨λ d e=>?_,λ e=>⟨v1,q1,?_⟩⟩
 ·obtain⟨x,e1,rfl⟩:=Q9 e
  obtain⟨u1,g1,w1⟩:=r1.get e1
  refine⟨⟨v1,u1,q1,g1⟩,λ x H2 y=>?_⟩
  obtain⟨p,x1,hp,rfl,rfl,k1⟩:=y
  have k1:=k1 _ q1
  rw[g1] at k1;(injection k1 with aD;subst aD)
  rw[Nat.zero_add]
  exact⟨Same.upd hp,jM (SqT.of upd_same) ((aY.cons (cO _) (.cons w1 .nil)).same (Same.upd hp))⟩
 ·rw[<-r1.length,<-Ra (n:=0)];exact e
theorem Ie (hg:Gl X "enumerate") (hm:X.mg "enumerate" =none) (ha:DA X [a] fa) (he:autoParam (starEach [a] X.env=(false,eval a X.env)::starEach [] X.env) bD._auto_1) (hpl:autoParam ((backTo pos (starEach [] X.env)).any (·.1)=false) bD._auto_1):
  DI X (.Tuple Dr kk pp) (.Call (.Name "enumerate" p) [a] [] pos) (λ ρ=>(fa ρ).bind yI):=by
 refine PI.imp (ag6 hg hm ha he hpl) λ σ H Q q=>?_
 obtain⟨ρ,O,j,q⟩:=q
 refine go j q λ ds vs H1 e1 s1 r1 j1 h1=>?_
 replace h1:=aiO h1
 obtain⟨x,rfl,h1⟩:=h1
 ·skip
  obtain⟨v1,rfl,w1⟩:=r1.one
  cases ex:jC x with
  |bad=>rw[ex] at h1;exact h1.elim
  |err c=>exact (XR ex).elim
  | ok xs=>
   rw[ex,R.bF] at h1
   obtain⟨t1,a1,rfl,c1⟩:=U3 w1 ex
   obtain⟨vs1,k1,_⟩:=c1.ex
   exact⟨t1,a1,rfl,⟨vs1,k1⟩,fin h1 (YR.enum c1)⟩
end
section
variable {prog:Program} {w:World} {A:Around} {E:Value->Shared->Prop} {s:Shared}
end
section
variable {X:Cx} {a:Expr} {p pos p2 pos2:Pos} {fa:aq->R (List D)}
noncomputable def ai6 (K:PySem.W.Frag) (ta:TA):TE:=λ σ H Q=>ta σ H λ vs H1=>∃j:Int,vs=[.int j]/\0<=j/\j<=1000/\∀q,H1 q=none->Q (.ref q) (upd H1 q (.rng 0 j))
theorem ai7 {ta:TA} (hg:Gl X "range") (hm:X.mg "range" =none) (ha:PA X [a] ta) (hs:autoParam (starEach [a] X.env=[(false,eval a X.env)]) bD._auto_1):PE X (.Call (.Name "range" p) [a] [] pos) (ai6 X.K ta):=by
 intro pins s σ H Q I h
 refine Call_ (ld_blt I hg hm boot_range (PyProof.Rows.callWith_type1 (thn (ha pos pins s σ H _ I h) λ us s1 ⟨vs,H1,I1,r1,q1⟩=>?_) hs rfl))
 obtain⟨j,e,h0,h1,q⟩:=q1
 subst e
 cases r1 with
 | cons r rr=>
  cases rr
  obtain⟨t,rfl⟩:=r
  refine call_range_1 ?_
  exact⟨.ref s1.heap.objs.size,upd H1 s1.heap.objs.size (.rng 0 j),I1.laid (λ b o e=>z1a _ e) (z0g _) ⟨_,_,_,z1f _ rfl⟩,rfl,q _ (I1.hok.fresh (z0g _))⟩
end
section
variable {X:Cx} {e:Expr} {f:aq->R D} {pos:Pos}
noncomputable def afq (K:PySem.W.Frag) (mg:Str->Option Value) (x:Str) (ss:List Str):Prop:=∃a,mg x=some (.ref a)/\∀H,SqT K H a (ss.map V.str)
theorem Rb {K:PySem.W.Frag} {O:Addr->Prop} {H:Hp}:∀{ss:List Str},aY K O H (ss.map D.str) (ss.map V.str)
 |[]=> .nil
 |_::_=> .cons (Nq _) Rb
theorem ag9 {x:Str} {ss:List Str} {pos:Pos} (hg:Gl X x) (h:afq X.K X.mg x ss) (hd:autoParam ((x ==("__debug__" :Str))=false) eY._auto_1):DE X (.Name x pos) (λ Z=> .ok (.tup (ss.map D.str))):=by
 obtain⟨a,hm,hq⟩:=h
 exact Nr (pe_glob (v:= .ref a) hg hm rfl hd) λ Z H=>jM (hq H) Rb
end
theorem aha {K:PySem.W.Frag} {h:Heap} {mg:Str->Option Value} {x:Str} {ss:List Str} {a:Addr} {od:Option Addr} {its:Array Value} {n:Nat} {sl:Array (Option Value)} (X:K.In h) (G:h.Ns mainGlobals mg)
  (y:PySem.W.nsIn K mainGlobals x=some (some (.ref a))) (l:K.lookup a=some ⟨.type "tuple",od,.seq its n,sl⟩) (hz:its.size<=sizeLine) (hv:Vals (ss.map V.str) its.toList):afq K mg x ss:=
 ⟨a,PySem.W.mg_of X G y,λ Z=> .inr ⟨_,its,n,l,rfl,rfl,hz,hv⟩⟩
section
variable {X:Cx}
end
section
variable {X:Cx}
inductive afr (XB:Cx) (K:PySem.W.Frag) (O:Addr->Prop) (H2:Hp) (Dd:Addr) (fp:List Addr) (tn:Nat->Heap->Prop) (ρ0:aq) (xs:List D) (F:D->R (Option D)) (all:List D) (n:Nat) (s':Shared):Prop
 |mk (i:Nat) (σ':St) (H':Hp) (ys:List V) (ds rest:List D) (en:n=xs.length+1 - i) (hil:i<=xs.length) (I:Inv XB [] σ' H' s') (st:tn i s'.heap) (fr:∀b∈fp,H' b=none) (j:In XB O H' ρ0 σ') (sm:Same H2 H') (hD:H' Dd=some (.lst ys)) (rp:aY K O H' ds ys) (hm:mL F (xs.drop i)= .ok rest) (hr:ds++rest=all):afr XB K O H2 Dd fp tn ρ0 xs F all n s'
noncomputable def Tb (ts:List (Addr×Str)) (H:Hp):Prop:=∀p∈ts,∃(ps:Array Value) (tq:Tok),H p.1=some (.tbl ps)/\ps[0]?=some (.str p.2 tq)
theorem Tb.un {ts:List (Addr×Str)} {fs ex:List Addr} {H H':Hp} {h h':Heap} (t:Tb ts H) (u:Un fs ex H H' h h'):Tb ts H':=λ p hp=>by
 obtain⟨ps,tq,e,q⟩:=t p hp
 obtain⟨more,e'⟩:=u.tbls _ _ e
 refine⟨_,tq,e',?_⟩
 obtain⟨hl,_⟩:=Array.getElem?_eq_some_iff.mp q
 rw[Array.getElem?_append_left hl];exact q
theorem Rc {tg iter elt:Expr} {ifs:List Expr} {scope:Scope} {pos pos2:Pos} {fi:aq->R (List D)} {gt:D->aq->R aq} {ft:aq->R Bool} {fe:aq->R D} (ts:List Str) (caps:List Nat)
  (hc:X.calm=true) (hb:Jq X.env.scope scope ts X.N=true) (hcap:(fY scope).map (λ x=>nY x X.N)=caps)
  (hi:DI X tg iter fi) (hk:tH ts.length gt) (hg:∀C s H ex,(cV X scope ts C s H ex).N.Nodup->DG (cV X scope ts C s H ex) tg gt) {KN:List (Addr×Str)} (hT:Tb KN X.H₀) (ht:∀C s H ex,Tb KN H->Ul (cV X scope ts C s H ex) ifs ft) (he:∀C s H ex,Tb KN H->DE (cV X scope ts C s H ex) elt fe)
  (hs:∀x,foldedSetIterable iter X.env x=pure x) {use:Option (Value->Sem Unit)} {Qr:Value->Shared->Prop} {pins:List (Addr×Obj)} {s:Shared} {σ:St} {H:Hp} {ρ:aq} {O:Addr->Prop} {Q:VK} (I:Inv X pins σ H s) (j:In X O H ρ σ)
  (hQ:∀(v:V) (H':Hp) (s5:Shared) (C:Addr) (m:Str->Option Value) (f:Flow) (acc:Value),Q v H'->Inv X pins σ H' s5->s5.heap.Ns C m->FpOk X pins H' C->RelV v acc->compPost (model X.prog X.w) X.A X.xe use Qr acc C (.ok f) s5)
  (h:good X (rD X) O (bR ts.length caps fi gt ft fe ρ) σ H Q):
  wpAny (model X.prog X.w) X.A (comprehension (.ListComp elt [⟨tg,iter,ifs,0⟩] scope pos) scope X.env pos2 (newList []) false (eval iter X.env) use) Qr X.xe s:=by
 have B:=alC hb
 refine wpAny_comprehension_free (cl:=jK X.env.cells scope.names []) (use:=use) rfl hs (aaG λ x hx e=>?_) B.kind B.loc ?_
 ·obtain⟨n,k⟩:=x
  have e:k= .free:=e
  subst e
  exact I.ok.has n (B.out n (wA hx))
 refine thn (hi pins s σ H (λ J H1=>∃xs,YR X.K O H1 J xs/\In X O H1 ρ σ/\good X (rD X) O ((mL (pX gt ft fe (Br ts.length caps ρ)) xs).bind (cap .lst)) σ H1 Q) I (Pu.go j h λ xs J H1 e1 s1 y1 j1 h1=>⟨xs,y1,j1,h1⟩)) λ xv s1 h1=>thn h1 λ itv s2 h2=>?_
 refine bc λ zQ=>?_
 obtain⟨it,fp,tn,J,H2,e,I2,T,st2,f2,xs,yr,j2,g2⟩:=h2
 apply zQ;clear zQ
 have tb2:Tb KN H2:=hT.un I2.base
 subst e
 rw[<-aaI hcap] at g2
 generalize eρ:pull X.N (fY scope) ts.length (ρ.map Bq)=ρ0 at g2
 refine bc λ zQ=>?_
 obtain⟨all,hall,hlen,g3⟩:∃all,mL (pX gt ft fe ρ0) xs= .ok all/\all.length<=1000000/\good X (rD X) O (.ok (.lst all)) σ H2 Q:=by
  cases e:mL (pX gt ft fe ρ0) xs with
  |bad=>rw[e] at g2;exact g2.elim
  |err c=>exact absurd e Kv
  | ok all=>
   rw[e] at g2
   have g2:good X (rD X) O (if all.length<=1000000 then .ok (.lst all) else .bad) σ H2 Q:=g2
   by_cases hl:all.length<=1000000
   ·rw[if_pos hl] at g2;exact⟨all,rfl,hl,g2⟩
   ·rw[if_neg hl] at g2;exact g2.elim
 apply zQ;clear zQ
 have hlt:∀b∈fp,b < s2.heap.objs.size:=λ b hb=>by
  refine bc λ zQ=>?_
  obtain⟨o,e,_⟩:=T.obj 0 _ st2 b hb
  apply zQ;clear zQ
  exact z2c e
 refine wpAny_newObj_type (ac1 ?_)
 generalize hC:(s2.heap.push {cls:= .type "list",dict:=none,data:= .seq ([]:List Value).toArray}).objs.size=C
 have hC':C=s2.heap.objs.size+1:=by rw[<-hC];exact Heap.size_push ..
 generalize e4:pushCells ((s2.heap.push {cls:= .type "list",dict:=none,data:= .seq ([]:List Value).toArray}).push {cls:= .type "dict",data:= .dict #[]}) scope.names=h4
 show codeAny (model X.prog X.w) X.A (.compStart (.ListComp elt [⟨tg,iter,ifs,0⟩] scope pos) 0 (.ref it) (.ref s2.heap.objs.size) (je scope X.env C)) (compPost (model X.prog X.w) X.A X.xe use Qr (.ref s2.heap.objs.size) C) {s2 with heap:=h4}
 have hDn:H2 s2.heap.objs.size=none:=I2.hok.fresh (z0g _)
 have hOn:¬O s2.heap.objs.size:=j2.vZ hDn
 have hDk:X.K.lookup s2.heap.objs.size=none:=by
  cases q:X.K.lookup s2.heap.objs.size with
  |none=>rfl
  |some o=>exact absurd (z2c (I2.kIn _ _ q)) (Nat.lt_irrefl _)
 have I4:=agU (ts:=ts) I2 B f2 hlt hC' e4.symm
 have sD:Same H2 (upd H2 s2.heap.objs.size (.lst [])):=Same.upd hDn
 have lρ0:ρ0.length=(ts++fY scope).length:=by rw[<-eρ,Bp,z1d]
 generalize eD:s2.heap.objs.size=Dd at *
 have ai8:∀{H':Hp},Same H2 H'->iK X.K O H2 (λ a=>O a\/a=Dd) H':=λ sm=>⟨(Same.iW (K:=X.K) (O:=O) sm).ext,λ a z=>z.elim .inl λ e=> .inr (by rw[e];exact⟨hDn,hDk⟩),(Same.iW (K:=X.K) (O:=O) sm).dom⟩
 have alO:∀{H':Hp} {ys:List V},Same H2 H'->H' Dd=some (.lst ys)->∀a,(O a\/a=Dd)->∃o,H' a=some o:=λ sm e a z=>z.elim (λ q=>let ⟨o,h⟩:=j2.al a q;⟨o,sm _ _ h⟩) λ q=>by rw[q];exact⟨_,e⟩
 have j4:In (cV X scope ts C s2 H2 fp) (λ a=>O a\/a=Dd) (upd H2 Dd (.lst [])) ρ0 (pull X.N (fY scope) ts.length σ):=by
  rw[<-eρ]
  exact In.go (aiV B j2.vals) Q6 (ai8 sD) (alO sD upd_same)
 have hv0:∀(i:Nat) e,ρ0[i]?=some (some e)->e.Zv=true:=by rw[<-eρ];exact Q6
 have hn0:∀i,i < ts.length->ρ0[i]?=some none:=by rw[<-eρ];exact λ i h=>ac4 h
 have alH:∀b o,s2.heap.get? b=some o->h4.get? b=some o:=λ b o e=>by
  rw[<-e4];exact pushCells_keeps _ _ b o (z1a _ (z1a _ e))
 have st4:tn 0 h4:=T.keep _ _ _ st2 λ b Z o e=>alH b o e
 have stat:∀{H':Hp},(∀b∈fp,H' b=none)->∀b∈fp,FpOk (cV X scope ts C s2 H2 fp) [] H' b:=λ {H'} hn b hb=>by
  have hl: @LT.lt Nat _ b Dd:=hlt b hb
  refine bc λ zQ=>?_
  obtain⟨_,a1,a2,a3,a4,_⟩:=f2 b hb
  apply zQ;clear zQ
  refine⟨hn b hb,by show @Ne Nat b C;exact ais hl hC',λ z=>?_,.inl hb,λ x c h=>?_,λ p hp=>absurd (show p∈([]:List (Addr×Obj)) from hp) (by simp)⟩
  ·rcases List.mem_cons.mp (I2.stkSub b z) with z |z
   ·exact a1 z
   ·exact a2 z
  ·rcases mX B I2.ok.has h with⟨_,q⟩ |⟨_,q⟩
   ·show @Ne Nat c b;exact ait q hl hC'
   ·exact a4 x c q
 have fr4:∀b∈fp,(upd H2 Dd (.lst [])) b=none:=λ b hb=>by
  have hl: @LT.lt Nat _ b Dd:=hlt b hb
  rw[upd_ne (show @Ne Nat b Dd by exact Nat.ne_of_lt hl)];exact (f2 b hb).1
 have loop : ∀ s0:Shared,s0={s2 with heap:=h4}->codeAny (model X.prog X.w) X.A (.compLoop (.ListComp elt [⟨tg,iter,ifs,0⟩] scope pos) 0 (.ref it) (.ref Dd) (je scope X.env C)) (compPost (model X.prog X.w) X.A X.xe use Qr (.ref Dd) C) s0:=by
  intro s0 e0
  refine codeAny_loop rfl (λ n s'=>afr (cV X scope ts C s2 H2 fp) X.K (λ a=>O a\/a=Dd) H2 Dd fp tn ρ0 xs (pX gt ft fe ρ0) all n s') (λ n s' hI=>?_) (xs.length+1)
   ⟨0,_,_,[],[],all,rfl,Nat.zero_le _,e0▸I4,e0▸st4,fr4,j4,sD,upd_same,.nil,by simpa using hall,rfl⟩
  refine bc λ zQ=>?_
  obtain⟨i,σ',H',ys,ds,rest,rfl,hil,I',st',fr',j',sm',hD',rp',hm',hr'⟩:=hI
  apply zQ;clear zQ
  show wpAny (model X.prog X.w) X.A ((compTurn (.ListComp elt [⟨tg,iter,ifs,0⟩] scope pos) 0 (.ref it) (.ref Dd) (je scope X.env C)).onRaise (λ x=>do noteFrame x (je scope X.env C);theTreesLotGoes x)) _ _ s'
  refine wpAny_noted ?_
  rw[compTurn_list]
  have yat:=yr _ H' (ai8 sm') i
  refine wpAny_bind (wpAny_standAt (wpAny_bind ?_))
  by_cases hlt':i < xs.length
  ·-- a turn
   have ex:xs[i]?=some xs[i]:=by simp[hlt']
   have ed:xs.drop i=xs[i]::xs.drop (i+1):=List.drop_eq_getElem_cons hlt'
   rw[ed] at hm'
   refine bc λ zQ=>?_
   obtain⟨o,rest',k1,k2,k3⟩:=ac3 hm'
   obtain⟨jgo,jy⟩:=yat.1 _ ex
   apply zQ;clear zQ
   refine wpAny_mono (T.item (cV X scope ts C s2 H2 fp) rfl rfl rfl hc i [] s' σ' H' (λ Z Z=>False) I' (stat fr') st' jgo) (λ r s4 ⟨u,hr,h4'⟩=>?_) λ Z Z z=>z.elim
   subst hr
   refine wpAny_bind (wpAny_mono h4' (λ _ s5 ⟨x,H5,I5,r5,y5,st5,fr5⟩=>?_) λ Z Z z=>z.elim)
   refine bc λ zQ=>?_
   obtain⟨U4,amY⟩:=jy x H5 y5
   apply zQ;clear zQ
   have I5':=I5.pinned (stat fr5) (T.obj _ _ st5)
   have k1:(gt xs[i] ρ0).bind (λ ρ1=>(ft ρ1).bind λ b=>if b=true then (fe ρ1).bind λ d=> .ok (some d) else .ok none)= .ok o:=k1
   refine bc λ zQ=>?_
   cases q1:gt xs[i] ρ0 with
   |bad=>rw[q1] at k1;injection k1
   |err c=>rw[q1] at k1;injection k1
   | ok ρ1 =>
    apply zQ;clear zQ
    rw[q1] at k1
    have k1:(ft ρ1).bind (λ b=>if b=true then (fe ρ1).bind λ d=> .ok (some d) else .ok none)= .ok o:=k1
    refine wpAny_bind (wpAny_mono (hg C s2 H2 fp B.nd _ s5 σ' H5 x u (λ σ6 H6=>H6=H5/\In (cV X scope ts C s2 H2 fp) (λ a=>O a\/a=Dd) H5 ρ1 σ6) I5' r5 ⟨ρ0,_,xs[i],ρ1,j'.same U4,amY,q1,λ σ6 j6=>⟨rfl,j6⟩⟩) (λ _ s6 ⟨σ6,H6,I6,eH,j6⟩=>?_) λ Z Z z=>(show False from z).elim)
    subst eH
    refine bc λ zQ=>?_
    cases q2:ft ρ1 with
    |bad=>rw[q2] at k1;injection k1
    |err c=>rw[q2] at k1;injection k1
    | ok bb =>
     apply zQ;clear zQ
     rw[q2] at k1
     have k1:(if bb=true then (fe ρ1).bind λ d=>R.ok (some d) else .ok none)= .ok o:=k1
     have gtest:tG (cV X scope ts C s2 H2 fp) rB ft σ6 H6 (λ b H7=>b=bb/\Same H6 H7):=⟨ρ1,_,j6,by rw[q2];exact λ b H7 s7 e7=>⟨e7.symm,s7⟩⟩
     refine wpAny_bind (wpAny_mono (ht C s2 H2 fp tb2 _ s6 σ6 H6 _ I6 gtest) (λ ok s7 ⟨H7,I7,ok7,KQ⟩=>?_) λ Z Z z=>(show False from z).elim)
     subst ok7
     have back:∀{H8:Hp} {s8:Shared} {ys':List V} {ds':List D},Inv (cV X scope ts C s2 H2 fp) ([]++pinsAt fp s5.heap) σ6 H8 s8->Same H2 H8->In (cV X scope ts C s2 H2 fp) (λ a=>O a\/a=Dd) H8 ρ0 σ6->H8 Dd=some (.lst ys')->aY X.K (λ a=>O a\/a=Dd) H8 ds' ys'->ds'++rest'=all->
       ∃m,m < xs.length+1 - i/\afr (cV X scope ts C s2 H2 fp) X.K (λ a=>O a\/a=Dd) H2 Dd fp tn ρ0 xs (pX gt ft fe ρ0) all m s8:=by
      intro H8 s8 ys' ds' I8 ZQ j8 hD8 rp8 hr8
      refine⟨xs.length+1 - (i+1),by exact akk hil,i+1,σ6,H8,ys',ds',rest',rfl,by exact akj hlt',I8.unpinned,T.keep _ _ _ st5 λ b hb o e=>(I8.pin (b,o) (List.mem_append_right _ (List.mem_append_right _ (mem_pinsAt hb e)))).1,λ b hb=>?_,j8,ZQ,hD8,rp8,k2,hr8⟩
      refine bc λ zQ=>?_
      obtain⟨o,e,d⟩:=T.obj _ _ st5 b hb
      apply zQ;clear zQ
      exact (I8.pin (b,o) (List.mem_append_right _ (List.mem_append_right _ (mem_pinsAt hb e)))).2.1
     have j60:In (cV X scope ts C s2 H2 fp) (λ a=>O a\/a=Dd) H6 ρ0 σ6:=In.back (n:=ts.length) j6 hn0 (λ k hk'=>hk _ _ _ q1 k hk') lρ0
     refine bc λ zQ=>?_
     cases ok with
     | false=>
      apply zQ;clear zQ
      have k1:R.ok none=R.ok o:=k1
      (injection k1 with aD;subst aD)
      refine wpAny_pure ⟨rfl,?_⟩
      refine back I7 (sm'.trans (U4.trans KQ)) (j60.same KQ) (KQ _ _ (U4 _ _ hD')) (rp'.same (U4.trans KQ)) ?_
      rw[<-hr',k3];rfl
     | true =>
      apply zQ;clear zQ
      have k1:(fe ρ1).bind (λ d=>R.ok (some d))= .ok o:=k1
      refine bc λ zQ=>?_
      cases q3:fe ρ1 with
      |bad=>rw[q3] at k1;injection k1
      |err c=>rw[q3] at k1;injection k1
      | ok d =>
       apply zQ;clear zQ
       rw[q3] at k1
       have k1:R.ok (some d)=R.ok o:=k1
       (injection k1 with aD;subst aD)
       have amZ:tG (cV X scope ts C s2 H2 fp) (rD (cV X scope ts C s2 H2 fp)) fe σ6 H7 (λ v H8=>Same H7 H8/\Rep X.K (λ a=>O a\/a=Dd) H8 d v):=⟨ρ1,_,j6.same KQ,by rw[q3];exact λ v H8 s8 r8=>⟨s8,r8⟩⟩
       refine wpAny_bind (wpAny_bind (wpAny_mono (he C s2 H2 fp tb2 _ s7 σ6 H7 _ I7 amZ) (λ xv s8 ⟨v8,H8,I8,r8,ZQ,am0⟩=>?_) λ Z Z z=>(show False from z).elim))
       have hD8:H8 Dd=some (.lst ys):=ZQ _ _ (KQ _ _ (U4 _ _ hD'))
       have rp8:aY X.K (λ a=>O a\/a=Dd) H8 ds ys:=rp'.same (U4.trans (KQ.trans ZQ))
       have hds:ds++d::rest'=all:=by rw[<-hr',k3];rfl
       have hyl:ys.length < sizeLine:=by
        have:=j5
        have e1:=rp8.length
        have e2:=congrArg List.length hds
        rw[z1d,List.length_cons] at e2
        exact akl this e2 e1 hlen
       refine wpAny_bind (wpAny_mono (mt_append (X:=cV X scope ts C s2 H2 fp) _ s8 σ6 H8 (.ref Dd) [v8] (.ref Dd) [xv] (λ Z H9=>H9=upd H8 Dd (.lst (ys++[v8]))) I8 rfl (.cons r8 .nil) ⟨_,ys,v8,rfl,rfl,hD8,hyl,rfl⟩) (λ _ s9 ⟨_,H9,I9,_,eH9⟩=>?_) λ Z Z z=>(show False from z).elim)
       subst eH9
       have am1:Same H2 H8:=sm'.trans (U4.trans (KQ.trans ZQ))
       have ai9:iK X.K (λ a=>O a\/a=Dd) H8 (λ a=>O a\/a=Dd) (upd H8 Dd (.lst (ys++[v8]))):=by
        refine⟨⟨λ b zs h=>?_,λ b zs n h=>?_⟩,λ a z=> .inl z,λ a z=>?_⟩
        ·have nb:b≠Dd:=λ e=>by
          rw[e] at h
          rcases h with h |⟨o,h⟩ <;> rw[hD8] at h <;> (injection h with aD;injection aD)
         refine bc λ zQ=>?_
         rcases h with h |⟨o,h⟩
         ·apply zQ;clear zQ
          exact .inl (by rw[upd_ne nb];exact h)
         ·apply zQ;clear zQ
          exact .inr ⟨o,by rw[upd_ne nb];exact h⟩
        ·have nb:b≠Dd:=λ e=>n (.inr e)
         refine bc λ zQ=>?_
         rcases h with h |⟨o,h⟩
         ·apply zQ;clear zQ
          exact .inl (by rw[upd_ne nb];exact h)
         ·apply zQ;clear zQ
          exact .inr ⟨o,by rw[upd_ne nb];exact h⟩
        ·by_cases ea:a=Dd
         ·rw[ea,upd_same] at z;injection z
         ·rw[upd_ne ea] at z;exact z
       have sm9:Same H2 (upd H8 Dd (.lst (ys++[v8]))):=λ b o e=>by
        rw[upd_ne (ne_of_none e hDn)];exact am1 _ _ e
       refine wpAny_pure (wpAny_pure ⟨rfl,?_⟩)
       refine back I9 sm9 (In.go (j60.same (KQ.trans ZQ)) hv0 ai9 (alO sm9 upd_same)) upd_same ((rp8.append (.cons am0 .nil)).go ai9) ?_
       rw[List.append_assoc];exact hds
  ·-- the end
   have ei:i=xs.length:=by exact ae2 hil hlt'
   subst ei
   have hrest:rest=[]:=by
    have hm':mL (pX gt ft fe ρ0) (xs.drop xs.length)= .ok rest:=hm'
    rw[List.drop_length] at hm'
    (injection hm' with aD;subst aD);rfl
   subst hrest
   rw[List.append_nil] at hr'
   subst hr'
   refine wpAny_mono (T.done (cV X scope ts C s2 H2 fp) rfl rfl rfl hc _ [] s' σ' H' (λ Z Z=>False) I' (stat fr') st' (yat.2 (z0g _))) (λ r s5 ⟨hr,I5⟩=>?_) λ Z Z z=>z.elim
   subst hr
   refine wpAny_pure ?_
   refine bc λ zQ=>?_
   obtain⟨m,hns,_⟩:=I5.loc
   apply zQ;clear zQ
   have hCn:H' C=none:=I5.free
   have I6:Inv X pins σ H' s5:=by
    refine I2.call' (s':=s5) (ch:=fp) I5.os ⟨λ b o e n hb hx=>I5.base.keep b o e n hb hx,λ b o e n hb hx=>I5.base.slot b o e n hb hx,I5.base.free,λ b o e hx=>I5.base.there b o e hx,I5.base.tups,I5.base.frzs,I5.base.tbls⟩ (λ b u e=>I5.hok b u e) I5.bare λ b hb=>⟨(f2 b hb).2.2.2.1,(f2 b hb).2.1,(f2 b hb).2.2.2.2.1,(f2 b hb).2.2.2.2.2⟩
   exact hQ (.ref Dd) H' s5 C m _ (.ref Dd) (g3 _ _ sm' (vO (SqL.of hD') hOn (rp'.fewer λ a z=> .inl z))) I6 hns (I2.fpOk (show @LE.le Nat _ _ C by exact akm eD hC') hCn) rfl
 exact codeAny_compStart_list (loop _ rfl) (T.self _ 0 _ _ _ st4 (loop _ rfl))
theorem U5 {tg iter elt:Expr} {ifs:List Expr} {scope:Scope} {pos pos2:Pos} {fi:aq->R (List D)} {gt:D->aq->R aq} {ft:aq->R Bool} {fe:aq->R D} (ts:List Str) (caps:List Nat)
  (hc:X.calm=true) (hb:Jq X.env.scope scope ts X.N=true) (hcap:(fY scope).map (λ x=>nY x X.N)=caps)
  (hi:DI X tg iter fi) (hk:tH ts.length gt) (hg:∀C s H ex,(cV X scope ts C s H ex).N.Nodup->DG (cV X scope ts C s H ex) tg gt) (ht:∀C s H ex,Ul (cV X scope ts C s H ex) ifs ft) (he:∀C s H ex,DE (cV X scope ts C s H ex) elt fe)
  (hs:∀x,foldedSetIterable iter X.env x=pure x) {use:Option (Value->Sem Unit)} {Qr:Value->Shared->Prop} {pins:List (Addr×Obj)} {s:Shared} {σ:St} {H:Hp} {ρ:aq} {O:Addr->Prop} {Q:VK} (I:Inv X pins σ H s) (j:In X O H ρ σ)
  (hQ:∀(v:V) (H':Hp) (s5:Shared) (C:Addr) (m:Str->Option Value) (f:Flow) (acc:Value),Q v H'->Inv X pins σ H' s5->s5.heap.Ns C m->FpOk X pins H' C->RelV v acc->compPost (model X.prog X.w) X.A X.xe use Qr acc C (.ok f) s5)
  (h:good X (rD X) O (bR ts.length caps fi gt ft fe ρ) σ H Q):
  wpAny (model X.prog X.w) X.A (comprehension (.ListComp elt [⟨tg,iter,ifs,0⟩] scope pos) scope X.env pos2 (newList []) false (eval iter X.env) use) Qr X.xe s:=
 Rc (KN:=[]) ts caps hc hb hcap hi hk hg (λ Z z=>absurd z List.not_mem_nil) (λ C s H ex Z=>ht C s H ex) (λ C s H ex Z=>he C s H ex) hs I j hQ h
theorem cD {tg iter elt:Expr} {ifs:List Expr} {scope:Scope} {pos:Pos} {fi:aq->R (List D)} {gt:D->aq->R aq} {ft:aq->R Bool} {fe:aq->R D} (ts:List Str) (caps:List Nat)
  (hc:X.calm=true) (hb:Jq X.env.scope scope ts X.N=true) (hcap:(fY scope).map (λ x=>nY x X.N)=caps)
  (hi:DI X tg iter fi) (hk:tH ts.length gt) (hg:∀C s H ex,(cV X scope ts C s H ex).N.Nodup->DG (cV X scope ts C s H ex) tg gt) (ht:∀C s H ex,Ul (cV X scope ts C s H ex) ifs ft) (he:∀C s H ex,DE (cV X scope ts C s H ex) elt fe)
  (hs:autoParam (∀x,foldedSetIterable iter X.env x=pure x) Zr._auto_1):
  DE X (.ListComp elt [⟨tg,iter,ifs,0⟩] scope pos) (bR ts.length caps fi gt ft fe):=by
 intro pins s σ H Q I h
 obtain⟨ρ,O,j,h⟩:=h
 rw[eval_ListComp]
 exact U5 ts caps hc hb hcap hi hk hg ht he hs (use:=none) (Qr:=EP X pins σ Q) I j (λ v H' s5 C m f acc hv I6 hns fp rv=>⟨m,hns,λ h' sb=>⟨v,H',I6.fp fp sb,rv,hv⟩⟩) h
theorem ahb (i:Nat) {x:Str} {pos' cpos pos:Pos} {tg iter elt:Expr} {ifs:List Expr} {scope:Scope} {fi:aq->R (List D)} {gt:D->aq->R aq} {ft:aq->R Bool} {fe:aq->R D} (hN:X.N.Nodup) (ts:List Str) (caps:List Nat)
  (hc:X.calm=true) (hb:Jq X.env.scope scope ts X.N=true) (hcap:(fY scope).map (λ x=>nY x X.N)=caps)
  (hi:DI X tg iter fi) (hk:tH ts.length gt) (hg:∀C s H ex,(cV X scope ts C s H ex).N.Nodup->DG (cV X scope ts C s H ex) tg gt) (ht:∀C s H ex,Ul (cV X scope ts C s H ex) ifs ft) (he:∀C s H ex,DE (cV X scope ts C s H ex) elt fe)
  (hix:X.N[i]?=some x:=by rfl) (hx:Loc X.env.scope x:=by first |exact Or.inl rfl |exact Or.inr rfl) (hf:X.fn x=true\/X.env.scope.names.lookup x=some .local:=by first |exact .inl rfl |exact .inr rfl)
  (hsw:swapsWith (.ListComp elt [⟨tg,iter,ifs,0⟩] scope cpos) (some (.Name x pos')) pos.line X.env=pure true:=by rfl)
  (hs:∀x,foldedSetIterable iter X.env x=pure x:=by intro Z;rfl):
  DS X (.Assign [.Name x pos'] (.ListComp elt [⟨tg,iter,ifs,0⟩] scope cpos) pos) (bL (bR ts.length caps fi gt ft fe) (aK i)):=by
 intro pins s σ H E I h
 obtain⟨H0,O0,O,ρ,j,h⟩:=h
 rw[exec_Assign_Name_used _ _ _ _ hsw]
 refine wpAny_bind (wpAny_standAt (wpAny_bind ?_))
 show wpAny _ _ (comprehension (.ListComp elt [⟨tg,iter,ifs,0⟩] scope cpos) scope X.env _ (newList []) false (eval iter X.env) (some (assign (.Name x pos') X.env)) >>=λ Z=>pure ()) _ _ _
 unfold bL qM at h
 refine wpAny_bind (U5 (Q:=λ v H'=>∃d,bR ts.length caps fi gt ft fe ρ= .ok d/\Same H H'/\Rep X.K O H' d v) (Qr:=λ Z s'=>wpAny (model X.prog X.w) X.A (pure ()) (λ Z s1=>wpAny (model X.prog X.w) X.A (pure Flow.next) (SP X pins E) X.xe s1) X.xe s') ts caps hc hb hcap hi hk hg ht he hs I j.inn ?_ ?_)
 ·intro v H' s5 C m f acc hq I5 hns fC rel
  obtain⟨d,ed,sm,rd⟩:=hq
  rw[ed] at h
  have h:tK X H0 O0 O H E (.nx (ρ.set i (some (.val d)))):=h
  obtain⟨o,es,ep,ho,hd,hr⟩:=hns
  have Ip:=I5.pinned (fp:=[C]) (λ b hb=>by rw[List.mem_singleton.mp hb];exact fC) (λ b hb=>by rw[List.mem_singleton.mp hb];exact⟨o,ho,λ v z=>by rw[hd] at z;cases z⟩)
  show wpAny (model X.prog X.w) X.A (assign (.Name x pos') X.env acc) _ X.xe s5
  refine wpAny_mono (pg_name hN hix hx hf _ s5 σ H' v acc (λ σ' H''=>σ'=σ.set i (some v)/\H''=H') Ip rel ⟨rfl,rfl⟩) (λ _ s6 ⟨σ',H'',I',e1,e2⟩=>?_) λ Z Z z=>z
  subst e1 e2
  have pn:=(I'.pin (C,o) (List.mem_append_right _ (List.mem_append_right _ (mem_pinsAt (List.mem_singleton.mpr rfl) ho)))).1
  refine⟨m,⟨o,es,ep,pn,hd,hr⟩,λ h' sb=>wpAny_pure (wpAny_pure ⟨_,H'',(I'.unpinned).fp fC sb,h _ H'' O ((j.grow sm).set (z1b hix).1 rd) (Same.iW sm)⟩)⟩
 ·cases e1:bR ts.length caps fi gt ft fe ρ with
  |bad=>rw[e1] at h;exact h
  |err c=>rw[e1] at h;exact h σ H O j
  |ok d=>exact λ v H' sm r=>⟨d,rfl,sm,r⟩
end
noncomputable def okN (F:List D->R D) (n:Nat) (ds:List D):R D:=if ds.length=n then F ds else .bad
noncomputable def Ih (sub:Str->Str->Bool) (i:Nat) (t:Str):aq->R D:=λ ρ=>match ρ[i]? with
 |some (some (.obj (.exc c)))=>if sub c c=true then .ok (.bl (sub c t)) else .bad
 |_=> .bad
noncomputable def U6 (sub:Str->Str->Bool) (t:Str) (i:Nat) (g h:aq->So):aq->So:=λ ρ=>match g ρ with
 | .ex c ρ1=>if sub c t=true then (match h (ρ1.set i (some (.obj (.exc c)))) with
  | .rt d=> .rt d
  |_=> .bad) else .bad
 |o=>o
noncomputable def anr:List D->R (List D)
 |[.lst ds]=> .ok ds.reverse
 |_=> .bad
noncomputable def mulL:D->D->R D
 | .lst ds,.int k=>if ds≠[]/\1<=k/\k < 2 ^ 63/\ds.length*k.toNat<=1000000 then .ok (.lst (List.replicate k.toNat ds).flatten) else .bad
 |x,y=>Jy x y
section
variable {ρ ρ1:aq} {fa:aq->R (List D)} {F:List D->R D} {ds:List D} {n:Nat} {d:D} {c:Str} {f:aq->R D} {gt:D->aq->R aq} {p:aq->R Bool} {s t:aq->So} {o:So}
theorem N7 (e:f (dU ρ)= .err c):pY f ρ= .ex c ρ:=by rw[pY,e];rfl
theorem adv (e:s ρ= .ex c ρ1):bh s t ρ= .ex c ρ1:=by rw[bh,e]
theorem U7 {m:Nat} (e:s (ds.map (λ d=>some (.val d))++List.replicate m none)= .ex c ρ1):cT m s ds= .err c:=by rw[cT,e]
theorem BL {sub:Str->Str->Bool} {i:Nat} {t:Str} (h:ρ[i]?=some (some (.obj (.exc c)))) (hk:sub c c=true):Ih sub i t ρ= .ok (.bl (sub c t)):=by
 unfold Ih
 rw[h]
 show (if sub c c=true then R.ok (D.bl (sub c t)) else .bad)=_
 rw[if_pos hk]
theorem adw {sub:Str->Str->Bool} {i:Nat} {u:Str} (e1:s ρ= .ex c ρ1) (hs:sub c u=true) (e2:t (ρ1.set i (some (.obj (.exc c))))= .rt d):U6 sub u i s t ρ= .rt d:=by
 unfold U6
 rw[e1]
 simp only[hs,if_true,e2]
end
structure Al (fs:List Addr) (h h':Heap) (a C:Addr) (T:Option Addr) (t':Addr):Prop where
 exc:Exc h' a C (some t')
 old:T=some t'\/h.get? t'=none
 keep:∀b o,h.get? b=some o->b≠a->T≠some b->b∉fs->h'.get? b=some o
 slot:∀b o,h.get? b=some o->b∈fs->∃sl,h'.get? b=some {o with slots:=sl}
section
variable {M:Model} {A:Around} {E:Value->Shared->Prop} {s:Shared}
theorem Eo {h h1 b0 b1:Heap}:∀{l:List PySem.Env},h.FunFrames b0 l->(∀b∈frs l,b1.get? b=none)->(∀b o,h.get? b=some o->b∈frs l->h1.get? b=some o)->h1.FunFrames b1 l
 |[],_,_,_=>trivial
 | env::r,hl,hn,hs=>by
  obtain⟨hk,⟨L,o,hf,_,ho,hd⟩,hr⟩:=hl
  have e:frs (env::r)=L::frs r:=by unfold frs;rw[List.filterMap_cons,hf]
  rw[e] at hn hs
  exact⟨hk,⟨L,o,hf,hn L List.mem_cons_self,hs L o ho List.mem_cons_self,hd⟩,Eo hr (λ b hb=>hn b (z2f _ hb)) λ b o q hb=>hs b o q (z2f _ hb)⟩
theorem adx {o:Obj} {g:Array Value->Array Value}:(o.mapFields g).dict=o.dict:=by
 obtain⟨c,d,dt,sl⟩:=o
 cases dt <;> rfl
theorem Rf {env:PySem.Env} {outer:List PySem.Env} {L a C:Addr} {oe:Obj} {vs:Array Value} {hd0:Value} {had:Bool} {b0:Heap} {Q:Unit->Shared->Prop} (hfr:A.frames=some (env::outer)) (hl:s.heap.FunFrames b0 (env::outer)) (hf:env.frame=some L)
  (he:s.heap.get? a=some oe) (hc:oe.cls= .ref C) (hn:oe.dict=none) (hv:oe.data= .fields vs) (hz:1 < vs.size)
  (h:∀h' t',Al (frs (env::outer)) s.heap h' a C none t'->Q () {s with heap:=h'}):
  wpAny M A (do let x <-frameOf env;let y <-entryPlaceOf L had;let z <-EntryCells.newEntry hd0 x .none (rawInt L) .none y;setField (.ref a) 1 z) (λ Z s'=>wpAny M A (setFlight (.ref a) none) Q E s') E s:=by
 have na:a∉frs (env::outer):=λ z=>by
  obtain⟨_,o',ho',hd'⟩:=hl.mem z
  rw[he] at ho';cases ho'
  exact hd' vs hv
 refine wpAny_bind (wpAny_frameOf_fun hfr hl hf λ g1 sl1=>wpAny_bind (wpAny_entryPlaceOf λ pl ok=>?_))
 unfold EntryCells.newEntry newFields
 refine wpAny_bind (wpAny_newObj_type ?_ (ok.sizeOk5 _ _ _ _ _))
 have e1:g1.get? a=some oe:=(sl1.2.1 a na).trans he
 generalize hob:({cls:= .type "traceback",dict:=none,data:= .fields ([hd0,.ref L,.none,rawInt L,.none]++(if pl.isEmpty then List.replicate 6 Value.none else pl)).toArray}:Obj)=ob
 have afs:ob.data= .fields ([hd0,.ref L,.none,rawInt L,.none]++(if pl.isEmpty then List.replicate 6 Value.none else pl)).toArray:=by rw[<-hob]
 have am2:ob.isFreed=false:=by rw[<-hob];rfl
 have e2:(g1.push ob).get? a=some oe:=z1a ob e1
 refine wpAny_setField e2 hv hz ?_
 have nT:g1.objs.size≠a:=Nat.ne_of_gt (z2c e1)
 have d3:=Obj.data_mapFields hv (·.setIfInBounds 1 (Value.ref g1.objs.size))
 have e3:=Heap.get?_update_self (Obj.mapFields (·.setIfInBounds 1 (Value.ref g1.objs.size))) e2 (Obj.isFreed_of_fields d3)
 have T3:=(Heap.get?_update_other (g1.push ob) (Obj.mapFields (·.setIfInBounds 1 (Value.ref g1.objs.size))) (Ne.symm nT)).trans (z1f g1 am2)
 unfold setFlight
 refine wpAny_bind (wpAny_field e3 d3 (x:= .ref g1.objs.size) (by simp[hz]) ?_)
 rw[if_pos (show (Value.ref g1.objs.size !=Value.none)=true from by simp)]
 have hsz:3 < (([hd0,.ref L,.none,rawInt L,.none]++(if pl.isEmpty then List.replicate 6 Value.none else pl)).toArray).size:=by
  rw[z1c,z1d]
  show 3 < 5+_
  omega
 refine wpAny_setField T3 afs hsz (h _ g1.objs.size ⟨⟨_,_,(Heap.get?_update_other _ _ nT).trans e3,(Obj.cls_mapFields _ _).trans hc,adx.trans hn,d3,by simp[hz],nT,_,_,Heap.get?_update_self _ T3 (Obj.isFreed_of_fields (Obj.data_mapFields afs _)),Obj.data_mapFields afs _,?_⟩,.inr (Heap.get?_none_of_le (by rw[sl1.1];exact z0g _)),λ b o hb n1 Z n3=>?_,λ b o hb hm=>?_⟩)
 ·rw[Array.getElem?_setIfInBounds,if_pos rfl,if_pos hsz];rfl
 ·have q1:g1.get? b=some o:=(sl1.2.1 b n3).trans hb
  rw[Heap.get?_update_other _ _ (Nat.ne_of_gt (z2c q1)),Heap.get?_update_other _ _ (Ne.symm n1)]
  exact z1a _ q1
 ·obtain⟨sl,q1⟩:=sl1.2.2 b o hb
  refine⟨sl,?_⟩
  rw[Heap.get?_update_other _ _ (Nat.ne_of_gt (z2c q1)),Heap.get?_update_other _ _ (λ z=>na (by rw[z];exact hm))]
  exact z1a _ q1
theorem U8 {env:PySem.Env} {outer:List PySem.Env} {L a C:Addr} {T:Option Addr} {b0:Heap} {Q:Unit->Shared->Prop} (hfr:A.frames=some (env::outer)) (hl:s.heap.FunFrames b0 (env::outer)) (hf:env.frame=some L) (x:Exc s.heap a C T)
  (h:∀h' t',Al (frs (env::outer)) s.heap h' a C T t'->Q () {s with heap:=h'}):wpAny M A (noteFrame (.ref a) env) (λ Z s2=>wpAny M A (setFlight (.ref a) none) Q E s2) E s:=by
 obtain⟨oe,vs,he,hc,hn,hd,hx⟩:=x
 unfold noteFrame
 simp only[hf]
 cases T with
 | none=>
  have h1:vs[1]?=some Value.none:=hx
  refine wpAny_bind (wpAny_field he hd h1 ?_)
  rw[if_neg (by decide)]
  exact Rf hfr hl hf he hc hn hd (Array.getElem?_eq_some_iff.mp h1).1 h
 | some t=>
  obtain⟨h1,hne,ot,ts,ht,hdt,h3⟩:=hx
  have nt:t∉frs (env::outer):=λ z=>by
   obtain⟨_,o',ho',hd'⟩:=hl.mem z
   rw[ht] at ho';cases ho'
   exact hd' ts hdt
  refine wpAny_bind (wpAny_field he hd h1 ?_)
  rw[if_pos (show (Value.ref t !=Value.none)=true from by simp)]
  refine wpAny_bind (wpAny_field ht hdt h3 ?_)
  rw[if_neg (show ¬((Value.none ==rawInt L)=true) from by simp[rawInt])]
  refine wpAny_bind (wpAny_setField ht hdt (Array.getElem?_eq_some_iff.mp h3).1 ?_)
  have other:∀b o,s.heap.get? b=some o->b≠t->(s.heap.update t (Obj.mapFields (·.setIfInBounds 3 Value.none))).get? b=some o:=λ b o q hb=>(Heap.get?_update_other _ _ (Ne.symm hb)).trans q
  refine Rf (s:={s with heap:=s.heap.update t (Obj.mapFields (·.setIfInBounds 3 Value.none))}) (b0:=b0) hfr (Eo hl (λ b hb=>(hl.mem hb).1) λ b o q hb=>other b o q λ z=>nt (z▸hb)) hf (other a oe he (Ne.symm hne)) hc hn hd (Array.getElem?_eq_some_iff.mp h1).1 λ h' t' ld=>?_
  refine h h' t' ⟨ld.exc,?_,λ b o q n1 n2 n3=>ld.keep b o (other b o q λ z=>n2 (by rw[z])) n1 (by simp) n3,λ b o q hm=>ld.slot b o (other b o q λ z=>nt (z▸hm)) hm⟩
  by_cases z:t'=t
  ·exact .inl (by rw[z])
  ·refine .inr ?_
   rcases ld.old with q |q
   ·cases q
   ·cases q2:s.heap.get? t' with
    |none=>rfl
    | some o=>
     have q3:=other t' o q2 z
     have q:(s.heap.update t (Obj.mapFields (·.setIfInBounds 3 Value.none))).get? t'=none:=q
     rw[q] at q3;cases q3
theorem ady {env:PySem.Env} {outer:List PySem.Env} {L a C:Addr} {T:Option Addr} {b0:Heap} {Q:Unit->Shared->Prop} (hfr:A.frames=some (env::outer)) (hl:s.heap.FunFrames b0 (env::outer)) (hf:env.frame=some L) (x:Exc s.heap a C T)
  (h:∀h' t',Al (frs (env::outer)) s.heap h' a C T t'->Q () {s with heap:=h'}):wpAny M A (leaving env (.ref a)) Q E s:=by
 unfold leaving
 exact wpAny_bind (U8 hfr hl hf x h)
end
section
variable {P:Program} {w:World} {fs fs':List Addr} {H H' H0:Hp} {s s' s0:Shared} {a C:Addr} {T:Option Addr} {h':Heap} {t':Addr}
theorem ObjOk.ex {H:Hp} {h:Heap} {a:Addr} {o:HO} (x:ObjOk P w H h a o):∃ob,h.get? a=some ob:=by
 induction o with
 |lst xs=>obtain⟨_,_,_,_,e⟩:=x;exact⟨_,e⟩
 |tup xs=>obtain⟨_,_,_,ob,e,_⟩:=x;exact⟨_,e⟩
 |dK kvs=>obtain⟨_,_,_,_,ob,_,_,e,_⟩:=x;exact⟨_,e⟩
 |dT kvs=>obtain⟨_,_,_,_,ob,_,_,e,_⟩:=x;exact⟨_,e⟩
 |set S n=>obtain⟨ob,_,_,_,e,_⟩:=x;exact⟨_,e⟩
 |ins C dx fs=>obtain⟨_,_,_,e,_⟩:=x;exact⟨_,e⟩
 |own y=>exact x
 |xd fs=>obtain⟨_,⟨_,_,_,e,_⟩,_⟩:=x;exact⟨_,e⟩
 |rng lo hi=>obtain⟨_,_,_,e⟩:=x;exact⟨_,e⟩
 |frz ob u ih=>exact⟨_,x.1⟩
 |tbl ps=>obtain⟨_,e,_⟩:=x;exact⟨_,e⟩
 |met f y=>exact⟨_,x⟩
 |ext φ=>exact x.2.1
theorem JC {h:Heap} {b:Addr} (x:HOk P w H h) (e:h.get? b=none):H b=none:=by
 cases q:H b with
 |none=>rfl
 | some u=>
  obtain⟨o,z⟩:=ObjOk.ex (x b u q)
  rw[e] at z;cases z
theorem Al.hok {h:Heap} (ld:Al fs h h' a C T t') (x:HOk P w H h) (ha:H a=none) (ht:∀t,T=some t->H t=none) (hf:∀b∈fs,H b=none):HOk P w H h':=λ b u e=>by
 have ne:∀c v,H c=some v->c≠a/\T≠some c/\c∉fs:=λ c v q=>⟨λ z=>(by rw[z,ha] at q;cases q),λ z=>(by rw[ht c z] at q;cases q),λ z=>(by rw[hf c z] at q;cases q)⟩
 refine (x b u e).stay (λ c v hc q=>?_) (λ Z q=>q) (λ Z Z q=>q) λ Z Z Z Z q=>q
 rcases hc with rfl |hc
 ·obtain⟨n1,n2,n3⟩:=ne _ _ e
  exact ld.keep _ _ q n1 n2 n3
 ·obtain⟨n1,n2,n3⟩:=ne _ _ hc
  exact ld.keep _ _ q n1 n2 n3
theorem Dq.land (r:Dq P w fs H s a C T s' H') (hs:∀b∈fs',b∈fs) (ld:Al fs' s'.heap h' a C T t') (hf:∀b∈fs,H' b=none):Dq P w fs H s a C (some t') {s' with heap:=h'} H':=by
 have ne:∀b o,s.heap.get? b=some o->b≠a/\T≠some b:=λ b o q=>⟨λ z=>(by rw[z,r.na] at q;cases q),λ z=>(by rw[(r.nt b z).1] at q;cases q)⟩
 have any:∀b o,s.heap.get? b=some o->∀o',s'.heap.get? b=some o'->∃sl,h'.get? b=some {o' with slots:=sl}:=λ b o q o' q'=>by
  by_cases hb:b∈fs'
  ·exact ld.slot b o' q' hb
  ·exact⟨o'.slots,ld.keep b o' q' (ne b o q).1 (ne b o q).2 hb⟩
 refine⟨r.same,⟨λ b o q n hb hx=>?_,λ b o q n hb hx=>?_,r.un.free,λ b o q hx=>?_,r.un.tups,r.un.frzs,r.un.tbls⟩,ld.hok r.hok r.ha (λ t z=>(r.nt t z).2) λ b hb=>hf b (hs b hb),r.os,r.bare,ld.exc,r.na,r.ha,λ t z=>?_⟩
 ·exact ld.keep b o (r.un.keep b o q n hb hx) (ne b o q).1 (ne b o q).2 λ z=>hb (hs b z)
 ·obtain⟨sl,e⟩:=r.un.slot b o q n hb hx
  obtain⟨sl',e'⟩:=any b o q _ e
  exact⟨sl',e'⟩
 ·obtain⟨o',e⟩:=r.un.there b o q hx
  obtain⟨sl',e'⟩:=any b o q _ e
  exact⟨_,e'⟩
 ·cases z
  rcases ld.old with z |z
  ·exact r.nt t' z
  ·refine⟨?_,JC r.hok z⟩
   cases q:s.heap.get? t' with
   |none=>rfl
   | some o=>
    obtain⟨o',e⟩:=r.un.there t' o q (by simp)
    rw[z] at e;cases e
theorem Dq.from {X:Cx} {pins:List (Addr×Obj)} {σ:St} (I:Inv X pins σ H s) (hex:X.ex=[]) (r:Dq X.prog X.w (frs X.stack) H s a C T s' H') (sm:Same X.H₀ H):Dq X.prog X.w X.fs X.H₀ X.s₀ a C T s' H':=by
 have J:Inv X pins σ H' s':=I.call' r.os r.un r.hok r.bare λ b z=>absurd z (by simp)
 have b:=J.base
 rw[hex] at b
 have no:∀c,s.heap.get? c=none->X.s₀.heap.get? c=none:=λ c e=>by
  cases q:X.s₀.heap.get? c with
  |none=>rfl
  | some o=>
   obtain⟨o',e'⟩:=I.base.there c o q (by rw[hex];simp)
   rw[e] at e';cases e'
 exact⟨sm.trans r.same,b,r.hok,J.os,r.bare,r.exc,no a r.na,r.ha,λ t z=>⟨no t (r.nt t z).1,(r.nt t z).2⟩⟩
end
noncomputable def U9 (P:Program) (w:World):CXT:=λ outer H s E e s'=>∃a C T H',e= .ref a/\E (.ref C) none H'/\Dq P w (frs outer) H s a C T s' H'
noncomputable def spX (K:PySem.W.Frag) (n:Nat) (F:List D->R D):Sp:=λ vs H Q E=>∃O ds,aY K O H ds vs/\ds.length=n/\(∀a,O a->∃o,H a=some o)/\match F ds with
 | .ok d=>∀v H',Same H H'->Rep K O H' d v->Q v H'
 | .err c=>∀C H',PySem.W.nsIn K mainGlobals c=some (some (.ref C))->E (.ref C) none H'
 | .bad=>False
section
variable {P:Program} {w:World} {K:PySem.W.Frag} {mg:Str->Option Value} {base:Heap}
end
section
variable {X:Cx} {k n m:Nat} {F:List D->R D} {x:Str} {p pos:Pos} {e:Expr} {es:List Expr} {fa:aq->R (List D)}
end
abbrev aft:List Value:=[.type "ValueError",.type "Exception",.type "BaseException",.type "object"]
structure XCl (K:PySem.W.Frag) (mg:Str->Option Value) (c:Str) (C:Addr):Prop where
 ns:PySem.W.nsIn K mainGlobals c=some (some (.ref C))
 mg:mg c=some (.ref C)
 ex:PySem.W.excIn K C aft "ValueError.__new__" =true
set_option tactic.hygienic true in
theorem aja {K:PySem.W.Frag} {h:Heap} {C:Addr} {bmB:List Value} {newId:String} (X:K.In h) (q:PySem.W.excIn K C bmB newId=true):
  ∃bm N nm qn bs hdct sn sub ab col dd k0 k1 k2 k3 k5 mN,h.get? C=some (excClassObj nm qn C N bs bm hdct sn sub ab col dd k0 k1 k2 k3 k5 newId)/\h.Ns N mN/\mN "__init__" =none/\OwnTail h bmB bm:=by
 unfold PySem.W.excIn at q
 split at q
 ·rename_i d0 cd sl0 e0
  split at q
  ·rename_i C1 b1 a0 a1 a2 a3 n1 a5 e1 e2
   simp only[Bool.and_eq_true,beq_iff_eq,Bool.not_eq_true'] at q
   obtain⟨⟨⟨⟨⟨rfl,rfl⟩,z1⟩,z2⟩,z3⟩,z4⟩:=q
   obtain⟨v1,v2,v3,v4,v5,v6,v7,v8,v9,v10,v11⟩:=cd
   dsimp only at e1 z1 z3 z4
   subst e1 z1
   obtain⟨l0⟩:=sl0
   simp only at e2
   subst e2
   exact⟨b1,v4,v1,v5,v2,v6,v7,v8,v9,v10,d0,a0,a1,a2,a3,a5,_,X _ _ e0,.of_isNs (PySem.W.isNs_of_in X z3),PySem.W.nsMap_none_of_in X z3 z4,PySem.W.tail_of_in X z2⟩
  ·cases q
 ·cases q
section
variable {X:Cx} {c:Str} {C:Addr} {np cpos pos:Pos} {e:Expr} {fa:aq->R (List D)}
theorem Va (hc:X.calm=true) (hx:XCl X.K X.mg c C) (ha:DA X [e] fa) (hfa:∀ρ,∃ds,fa ρ= .ok ds/\ds.length<=1000000) (hg:Gl X c:=by rfl) (hdb:(c ==("__debug__" :Str))=false:=by decide)
  (he:starEach [e] X.env=(false,eval e X.env)::starEach [] X.env:=by rfl) (hpl:(backTo cpos (starEach [e] X.env)).any (·.1)=false:=by rfl):
  DS X (.Raise (some (.Call (.Name c np) [e] [] cpos)) none pos) (λ ρ=> .ex c ρ):=by
 intro pins s σ H E I h
 obtain⟨H0,O0,O,ρ,j,h⟩:=h
 obtain⟨bm,N,nm,qn,bs,hdct,sn,sub,ab,col,dd,k0,k1,k2,k3,k5,mN,o1,o2,o3,o4⟩:=aja I.mod.kin hx.ex
 obtain⟨ds,ef,dl⟩:=hfa ρ
 have key:tG X (Iz X) fa σ H (λ vs H1=>ds.length=vs.length/\Same H H1):=⟨ρ,O,j.inn,by rw[ef];exact λ vs H1 s1 r1=>⟨r1.length,s1⟩⟩
 refine wpAny_Raise_call_subU (C:=C) (nm:=nm) (q:=qn) (N:=N) (bs:=bs) (bm:=bm) (hdct:=hdct) (sn:=sn) (sub:=sub) (ab:=ab) (col:=col) (dd:=dd) (k0:=k0) (k1:=k1) (k2:=k2) (k3:=k3) (k5:=k5)
  PySem.F.excBase_ValueError (by rfl) PySem.F.excBase_ValueError (mN:=mN) (o4.hasType PySem.F.excBase_ValueError.hasBase) (I.ok.hd hc) hpl o3 (ld_glob I hg hx.mg ⟨rfl,?_⟩ hdb)
 have hA:=ha cpos pins s σ H _ I key
 rw[he] at hA |-
 refine Calls.evalArgs_plain (wpAny_mono hA (λ us s1 ⟨vs,H1,I1,r,hl,sm⟩=>?_) λ Z Z z=>z)
 refine⟨rfl,?_,I1.bk _ _ o1,o2.keeps I1.bk,o4.keeps I1.bk,λ h' ev hm=>?_⟩
 ·show us.length<=sizeLine
  rw[<-r.length,<-hl]
  exact z0b dl gk
 ·obtain⟨t,ht,_,_⟩:=hm.there
  exact h σ H1 O (j.grow sm) H1 pins s1 ev C none _ H1 (Same.refl _) I1 hx.ns ⟨Same.refl _,Un.kept hm.keeps,I1.hok.kept hm.keeps,rfl,I1.bare,⟨_,_,ht,rfl,rfl,rfl,rfl⟩,hm.new,JC I1.hok hm.new,λ Z z=>by cases z⟩
end
section
variable {X:Cx} {pins:List (Addr×Obj)} {σ:St} {H:Hp} {s:Shared}
theorem _root_.L2.Inv.track {a:Addr} {o:Obj} (I:Inv X pins σ H s) (ha:H a=none) (ho:s.heap.get? a=some o) (n0:X.s₀.heap.get? a=none) (nL:a≠X.env.locals) (nc:∀x c,X.env.cells.lookup x=some c->c≠a) (np:∀p∈X.pn++pins,p.1≠a):
  Inv X pins σ (upd H a (.frz o (.own a))) s:=by
 have old:∀b u,H b=some u->upd H a (.frz o (.own a)) b=some u:=λ b u q=>by rw[upd_ne (ne_of_none q ha)];exact q
 refine⟨I.ok,I.os,I.bare,⟨I.base.keep,I.base.slot,λ b ob q n hx=>?_,I.base.there,λ b xs q=>old _ _ (I.base.tups b xs q),λ b ob u q=>old _ _ (I.base.frzs b ob u q),λ b ps q=>?_⟩,I.loc,I.cell,?_,λ x c q=>?_,λ p hp=>?_,λ b u q=>?_,I.len⟩
 ·rw[upd_ne (λ z=>by rw[z,n0] at q;cases q)]
  exact I.base.free b ob q n hx
 ·obtain⟨more,e⟩:=I.base.tbls b ps q
  exact⟨more,old _ _ e⟩
 ·rw[upd_ne (Ne.symm nL)];exact I.free
 ·rw[upd_ne (nc x c q)];exact I.freeC x c q
 ·obtain⟨e,n,r⟩:=I.pin p hp
  exact⟨e,by rw[upd_ne (np p hp)];exact n,r⟩
 ·by_cases hb:b=a
  ·subst hb
   rw[upd_same] at q;cases q
   exact⟨ho,o,ho⟩
  ·rw[upd_ne hb] at q
   exact (I.hok b u q).stay (λ Z Z Z z=>z) (λ c z=>old _ _ z) (λ c xs z=>old _ _ z) λ c o u Z z=>old _ _ z
theorem _root_.L2.Inv.gone {h':Heap} {m':Str->Option Value} {t':Nat} (I:Inv X pins σ H s) (hn:h'.Ns X.env.locals m') (hs:Heap.SameBut X.env.locals s.heap h'):Inv X pins (List.replicate X.N.length none) H {s with heap:=h',toks:=t'}:=by
 have to:∀b ob,X.s₀.heap.get? b=some ob->b≠X.env.locals:=λ b ob q=>Nat.ne_of_lt (z0d (z2c q) I.ok.above)
 refine⟨I.ok,I.os,I.bare,⟨λ b ob q n hb hx=>?_,λ b ob q n hb hx=>?_,I.base.free,λ b ob q hx=>?_,I.base.tups,I.base.frzs,I.base.tbls⟩,⟨m',hn,λ i x v Z e2 Z=>?_⟩,λ x c q=>?_,I.free,I.freeC,λ p hp=>?_,λ b u q=>?_,by simp⟩
 ·exact (hs.2 b (to b ob q)).trans (I.base.keep b ob q n hb hx)
 ·obtain⟨sl,e⟩:=I.base.slot b ob q n hb hx
  exact⟨sl,(hs.2 b (to b ob q)).trans e⟩
 ·obtain⟨o',e⟩:=I.base.there b ob q hx
  exact⟨o',(hs.2 b (to b ob q)).trans e⟩
 ·rw[List.getElem?_replicate] at e2
  split at e2 <;> cases e2
 ·obtain⟨v,z⟩:=I.cell x c q
  exact⟨v,z.sameBut hs (I.cne x c q)⟩
 ·obtain⟨e,n,ne,r⟩:=I.pin p hp
  exact⟨(hs.2 p.1 ne).trans e,n,ne,r⟩
 ·refine (I.hok b u q).stay (λ c w' hc z=>(hs.2 c ?_).trans z) (λ Z z=>z) (λ Z Z z=>z) λ Z Z Z Z z=>z
  rintro rfl
  rcases hc with hc |hc
  ·rw[<-hc,I.free] at q;cases q
  ·rw[I.free] at hc;cases hc
noncomputable abbrev _root_.L2.Cx.KR (X:Cx) (a:Addr):Cx:={X with A:=X.A.mark (some (.ref a)),calm:=false,xe:=λ Z Z=>False}
theorem _root_.L2.Inv.KR (I:Inv X pins σ H s) (a:Addr):Inv (X.KR a) pins σ H s:=
 ⟨⟨I.ok.mod,I.ok.kind,I.ok.glob,I.ok.blt,I.ok.above,I.ok.inj,I.ok.has,I.ok.cab,λ z=>Bool.noConfusion z,I.ok.frames,I.ok.stk,I.ok.exf,I.ok.bs,I.ok.bsz,I.ok.noex,I.ok.exfs,I.ok.funs,I.ok.frf⟩,I.os,I.bare,I.base,I.loc,I.cell,I.free,I.freeC,I.pin,I.hok,I.len⟩
theorem _root_.L2.Inv.am3 {a:Addr} (ok:X.Ok) (I:Inv (X.KR a) pins σ H s):Inv X pins σ H s:=⟨ok,I.os,I.bare,I.base,I.loc,I.cell,I.free,I.freeC,I.pin,I.hok,I.len⟩
theorem At.cx {Y:Cx} {H0:Hp} {O0 O:Addr->Prop} {ρ:aq} (j:At X H0 O0 O H ρ σ) (hK:Y.K=X.K) (hN:Y.N=X.N):At Y H0 O0 O H ρ σ:=
 ⟨j.same,by rw[hK];exact j.iW,j.sub,⟨by rw[hK];exact j.inn.env,j.inn.al,by rw[hN];exact j.inn.len,by rw[hN];exact j.inn.pA⟩,j.mine⟩
theorem At.am4 {H0:Hp} {O0 O:Addr->Prop} {ρ:aq} (j:At X H0 O0 O H ρ σ) {i:Nat} (hi:i < X.N.length) {t:Ob} {v:V} (r:qP X.K H t v):At X H0 O0 O H (ρ.set i (some (.obj t))) (σ.set i (some v)):=by
 have h1:i < ρ.length:=by rw[j.inn.pA];exact hi
 have h2:i < σ.length:=by rw[j.inn.len];exact hi
 refine⟨j.same,j.iW,j.sub,⟨⟨λ k e q=>?_,λ k l e e' u hkl hk hl ok ol sk sl=>?_⟩,j.inn.al,by rw[List.length_set];exact j.inn.len,by rw[List.length_set];exact j.inn.pA⟩,λ k e a q ho hs=>?_⟩
 ·by_cases hki:k=i
  ·subst hki
   rw[z2a h1] at q;cases q
   exact⟨v,z2a h2,r⟩
  ·rw[z1e (Ne.symm hki)] at q
   obtain⟨v',q1,q2⟩:=j.inn.env.get k e q
   exact⟨v',by rw[z1e (Ne.symm hki)];exact q1,q2⟩
 ·by_cases hki:k=i
  ·subst hki
   rw[z2a h1] at hk;cases hk;cases ok
  ·by_cases hli:l=i
   ·subst hli
    rw[z2a h1] at hl;cases hl;cases ol
   ·rw[z1e (Ne.symm hki)] at hk sk
    rw[z1e (Ne.symm hli)] at hl sl
    exact j.inn.env.sep k l e e' u hkl hk hl ok ol sk sl
 ·by_cases hki:k=i
  ·subst hki
   rw[z2a h1] at q;cases q;cases ho
  ·rw[z1e (Ne.symm hki)] at q hs
   exact j.mine k e a q ho hs
end
noncomputable abbrev _root_.L2.Cx.ZR (X:Cx) (E:Value->Shared->Prop) (pn:List (Addr×Obj)):Cx:={X with xe:=E,pn:=pn}
section
variable {X:Cx} {pins:List (Addr×Obj)} {σ:St} {H:Hp} {s:Shared} {E:Value->Shared->Prop}
theorem _root_.L2.Inv.ZR (I:Inv X pins σ H s) (E:Value->Shared->Prop):Inv (X.ZR E (X.pn++pins)) [] σ H s:=
 ⟨⟨I.ok.mod,I.ok.kind,I.ok.glob,I.ok.blt,I.ok.above,I.ok.inj,I.ok.has,I.ok.cab,I.ok.hd,I.ok.frames,I.ok.stk,I.ok.exf,I.ok.bs,I.ok.bsz,I.ok.noex,I.ok.exfs,I.ok.funs,I.ok.frf⟩,I.os,I.bare,I.base,I.loc,I.cell,I.free,I.freeC,λ p hp=>I.pin p (by rw[List.append_nil] at hp;exact hp),I.hok,I.len⟩
theorem _root_.L2.Inv.yR {p1:List (Addr×Obj)} (ok:X.Ok) (I:Inv (X.ZR E (X.pn++pins)) p1 σ H s):Inv X pins σ H s:=
 ⟨ok,I.os,I.bare,I.base,I.loc,I.cell,I.free,I.freeC,λ p hp=>I.pin p (List.mem_append_left _ hp),I.hok,I.len⟩
theorem _root_.L2.SP.yR {D:Ends} {f:Flow} {s':Shared} (ok:X.Ok) (h:SP (X.ZR E (X.pn++pins)) [] D f s'):SP X pins D f s':=by
 cases f with
 |next=>obtain⟨σ',H',I,q⟩:=h;exact⟨σ',H',I.yR ok,q⟩
 |brk=>obtain⟨σ',H',I,q⟩:=h;exact⟨σ',H',I.yR ok,q⟩
 |cont=>obtain⟨σ',H',I,q⟩:=h;exact⟨σ',H',I.yR ok,q⟩
 |ret u=>obtain⟨v,σ',H',I,r,q⟩:=h;exact⟨v,σ',H',I.yR ok,r,q⟩
end
section
variable {X:Cx} {t n:Str} {CT:Addr} {np hpos pos:Pos} {body suite:List Stmt} {b₀:Stmt} {g h:aq->So} {sub:Str->Str->Bool}
theorem ajb (i:Nat) (hN:X.N.Nodup) (hst:X.stack=X.env::X.outer) (hfr:X.env.frame=some X.env.locals) (hex:X.ex=[]) (hm:X.mg t=some (.ref CT))
  (hx:∀c C,sub c t=true->PySem.W.nsIn X.K mainGlobals c=some (some (.ref C))->PySem.W.exmOne X.K (.ref C) (.ref CT)=some true)
  (hb:∀E pn,cX (X.ZR E pn) body g) (hh:∀a,cX (X.KR a) (b₀::suite) h) (hg:Gl X t:=by rfl) (hi:X.N[i]?=some n:=by rfl) (hl:X.env.kindOf n=some .local:=by rfl) (hdb:(t ==("__debug__" :Str))=false:=by decide):
  DS X (.Try body [.ExceptHandler (some (.Name t np)) (some n) (b₀::suite) hpos] [] [] pos) (U6 sub t i g h):=by
 intro pins s σ H E I q
 obtain⟨H0,O0,O,ρ,j,q⟩:=q
 refine wpAny_Try_except ?_
 have hin:i < X.N.length:=(z1b hi).1
 have hcls:(X.env.scope.kind == .class || (X.env.scope.kind == .module && X.env.locals !=X.env.globals))=false:=by rw[I.ok.kind];rfl
 refine wpAny_mono (hb _ (X.pn++pins) [] s σ H E (I.ZR _) ⟨H0,O0,O,ρ,j.cx rfl rfl,?_⟩) (λ f s1 z=>?_) λ Z Z z=>z
 ·-- the body's ends
  unfold U6 at q
  cases eg:g ρ with
  |bad=>rw[eg] at q;exact q
  |nx ρ1=>rw[eg] at q;exact λ σ' H' O' j' r'=>q σ' H' O' (j'.cx rfl rfl) r'
  |bk ρ1=>rw[eg] at q;exact λ σ' H' O' j' r'=>q σ' H' O' (j'.cx rfl rfl) r'
  |ct ρ1=>rw[eg] at q;exact λ σ' H' O' j' r'=>q σ' H' O' (j'.cx rfl rfl) r'
  |rt d=>rw[eg] at q;exact q
  | ex c ρ1 =>
   rw[eg] at q
   simp only at q
   by_cases hs:sub c t=true
   ·rw [if_pos hs] at q
    intro σ1 H1' O1 j1 H1 anl s1 a C T s2 H2 sm I1w hC rs
    have I1:Inv X pins σ1 H1 s1:=I1w.yR I.ok
    have J1:Inv X pins σ1 H2 s2:=I1.call' rs.os rs.un rs.hok rs.bare λ b z=>absurd z (by simp)
    refine U8 (b0:=X.base) (outer:=X.outer) (by rw[J1.ok.frames,hst]) (by have:=J1.stack;rwa [hst] at this) hfr rs.exc λ h3 t3 ld=>?_
    have am5:∀b∈frs (X.env::X.outer),b∈frs X.stack:=λ b z=>by rw[hst];exact z
    have r3:Dq X.prog X.w (frs X.stack) H1 s1 a C (some t3) {s2 with heap:=h3} H2:=Dq.land rs am5 ld J1.stkFree
    have J3:Inv X pins σ1 H2 {s2 with heap:=h3}:=I1.call' r3.os r3.un r3.hok r3.bare λ b z=>absurd z (by simp)
    obtain⟨oe,vs,x1,x2,x3,x4,x5,x6,ot,ts,y1,y2,y3⟩:=r3.exc
    refine wpAny_handleBy_cons (codeAny_handlers_test (ld_glob (X:=X.KR a) (J3.KR a) hg hm ?_ hdb)) (by intro z;cases z)
    have LT:PySem.W.Looks (model X.prog X.w) h3 (typeOf (.ref a)) (.ref C):=x2▸(PySem.W.Looks.ld x1).andThen .now
    refine (PySem.W.exm_one J3.kIn LT (hx c C hs hC)).here ?_
    simp only[if_true]
    refine codeAny_handlers_suite_as ?_
    refine wpAny_setFlight_none x1 x4 x5 y1 y2 (Array.getElem?_eq_some_iff.mp y3).1 ?_
    have alI:h3.update t3 (Obj.mapFields (·.setIfInBounds 3 Value.none))=h3:=Heap.update_setField_same h3 t3 ot ts 3 Value.none y1 y2 y3
    show wpAny _ _ _ _ _ {s2 with heap:=h3.update t3 (Obj.mapFields (·.setIfInBounds 3 Value.none))}
    rw[alI]
    have na1:∀b ob,s1.heap.get? b=some ob->b≠a:=λ b ob z e=>by rw[e,rs.na] at z;cases z
    have K3:Inv X pins σ1 (upd H2 a (.frz oe (.own a))) {s2 with heap:=h3}:=by
     refine J3.track r3.ha x1 ?_ ?_ (λ y cc z=>?_) λ p hp=>?_
     ·cases z:X.s₀.heap.get? a with
      |none=>rfl
      | some ob=>
       obtain⟨o',e⟩:=I1.base.there a ob z (by rw[hex];simp)
       rw[rs.na] at e;cases e
     ·intro z
      obtain⟨m,⟨ob,_,_,e,_⟩,_⟩:=I1.loc
      exact na1 _ _ e z.symm
     ·obtain⟨v,ob,e,_⟩:=I1.cell y cc z
      exact na1 _ _ e
     ·exact na1 _ _ (I1.pin p hp).1
    refine store_ok (X:=X.KR a) (v:= .ref a) (K3.KR a) hN hi (.inl hl) rfl (λ s4 J4=>?_) (.inr hl)
    have jx:At X H0 O0 O1 H1' ρ1 σ1:=j1.cx rfl rfl
    have sm3:Same H1' (upd H2 a (.frz oe (.own a))):=(sm.trans rs.same).trans (Same.upd r3.ha)
    have j4:At (X.KR a) H0 O0 O1 (upd H2 a (.frz oe (.own a))) (ρ1.set i (some (.obj (.exc c)))) (σ1.set i (some (.ref a))):=
     ((jx.grow sm3).am4 (t:= .exc c) (v:= .ref a) hin ⟨a,oe,C,rfl,upd_same,x2,x3,⟨vs,x4⟩,hC⟩).cx rfl rfl
    cases eh:h (ρ1.set i (some (.obj (.exc c)))) with
    | rt d=>
     rw[eh] at q
     refine wpAny_mono (hh a pins s4 _ _ {nx:=λ Z Z=>False,rt:=E.rt} J4 ⟨H0,O0,O1,_,j4,by rw[eh];exact q⟩) (λ f s5 z=>?_) λ Z Z z=>z.elim
     cases f with
     |next=>obtain⟨_,_,_,z⟩:=z;exact z.elim
     |brk=>obtain⟨_,_,_,z⟩:=z;exact z.elim
     |cont=>obtain⟨_,_,_,z⟩:=z;exact z.elim
     | ret u=>
      obtain⟨v,σ5,H5,J5,r5,q5⟩:=z
      have J5':Inv X pins σ5 H5 s5:=J5.am3 I.ok
      obtain⟨m,hn,_⟩:=J5'.loc
      exact wpAny_nameGoes hl hn hcls λ h6 m6 hn6 hs6=>⟨v,_,H5,J5'.gone hn6 hs6,r5,q5⟩
    |bad=>rw[eh] at q;exact q.elim
    |nx _=>rw[eh] at q;exact q.elim
    |bk _=>rw[eh] at q;exact q.elim
    |ct _=>rw[eh] at q;exact q.elim
    |ex _ _=>rw[eh] at q;exact q.elim
   ·rw[if_neg hs] at q;exact q.elim
 ·cases f with
  |next=>exact wpAny_execs_nil (z.yR I.ok)
  |brk=>exact z.yR I.ok
  |cont=>exact z.yR I.ok
  |ret u=>exact z.yR I.ok
end
structure IK (K:PySem.W.Frag) (C:Addr):Prop where
 g1:PySem.W.findIn K (.ref C) "__getattribute__" =some (some (.builtin "BaseException.__getattribute__"))
 g2:PySem.W.findIn K (.ref C) "__getattr__" =some none
 cl:(PySem.W.clsIn K C).isSome=true
 ha:PySem.W.findIn K (.ref C) "__class__" =some (some (.builtin "object.__class__"))
 hn:PySem.W.specialIn K (.builtin "object.__class__") "__get__" =some (some (.builtin "getset_descriptor.__get__"))
 ht:PySem.W.takesIn K (.builtin "object.__class__")=some true
 hm:PySem.W.mroIn K C (.type "object")=some true
 hb:PySem.W.mroIn K C (.type "BaseException")=some true
section
variable {prog:Program} {w:World} {A:Around} {E:Value->Shared->Prop} {s:Shared} {K:PySem.W.Frag} {x C:Addr} {ox:Obj} {od:Option Obj}
theorem adz {K:PySem.W.Frag} {C:Addr} {od:Option Obj} {name:Str} {a g:Value} (hc:(PySem.W.clsIn K C).isSome=true) (ha:PySem.W.findIn K (.ref C) name=some (some a)) (hg:PySem.W.specialIn K a "__get__" =some (some g)) (ht:PySem.W.takesIn K a=some true):PySem.W.findObj K C od name=some (.bind g a):=by
 obtain⟨cd,e⟩:=Option.isSome_iff_exists.mp hc
 unfold PySem.W.findObj
 rw[e,Option.bind_some,ha,Option.bind_some]
 simp[hg,ht]
theorem adA {Q:Option Value->Shared->Prop} (X:K.In s.heap) (I:PySem.W.InstAt s.heap x ox C od) (F:IK K C) (h:Q (some (.ref C)) {s with toks:=s.toks+1}):wpAny (model prog w) A (getAttr? (.ref x) "__class__") Q E s:=by
 obtain⟨hh,g,d,t,os⟩:=s
 have L0:=I.type (M:=model prog w)
 have L1:=PySem.W.looks_findIn (M:=model prog w) X F.g1
 have L2:=PySem.W.looks_findIn (M:=model prog w) X F.g2
 have L4:=PySem.W.looks_find (M:=model prog w) X I (adz (od:=od) F.cl F.ha F.hn F.ht)
 have LB:=PySem.W.looks_mroIn (M:=model prog w) X F.hb
 have f3:=PySem.F.attrBase_ValueError.ga.bind (.ref x)
 unfold getAttr? getAttrBy? getAttrBy
 refine wpAny_bind (wpAny_mkText (wpAny_bind (wpAny_attempt (wpAny_holding (wpAny_bind (L0.at (wpAny_bind (L1.at ?_))))))))
 have hx1:(onTheHeap (Value.ref C) && Value.builtin "BaseException.__getattribute__" ==Value.builtin "object.__getattribute__")=false:=by
  rw[show (Value.builtin "BaseException.__getattribute__" ==Value.builtin "object.__getattribute__")=false from by decide +kernel];exact Bool.and_false _
 dsimp only
 rw[hx1,if_neg Bool.false_ne_true]
 unfold getAttrByItsOwn hookBefore
 rw[if_pos (show onTheHeap (Value.ref C)=true from rfl)]
 refine wpAny_bind (L2.at (wpAny_bind (wpAny_attempt (wpAny_holding ?_))))
 unfold callGetattribute
 rw[Bool.false_and,if_neg Bool.false_ne_true]
 unfold boundAndCalled
 rw[f3]
 refine wpAny_bind (wpAny_pure ?_)
 refine wpAny_call (codeAny_call_builtin PySem.F.attrBase_ValueError.ga.plain PySem.F.entry_bexc_ga ?_)
 have hk:builtinKind "BaseException.__getattribute__" =some .slot:=by decide +kernel
 have hsp:splitId "BaseException.__getattribute__" =some ("BaseException","__getattribute__"):=by decide +kernel
 have ha:=PySem.F.args_bexc_ga (.ref x) (.str (Str.ofString "__class__") t)
 simp only[checkBuiltinCall,hk,hsp,List.cons_append,List.nil_append]
 unfold isInstance
 refine wpAny_bind (wpAny_bind (L0.at (LB.at ?_)))
 rw[Bool.not_true,if_neg Bool.false_ne_true]
 refine wpAny_of_eq (a:=()) ha ?_
 unfold Builtin.«object.__getattribute__»
 refine wpAny_bind (wpAny_pure ?_)
 refine wpAny_bind (wpAny_pure ?_)
 refine wpAny_bind (L0.at (wpAny_bind (L4.at ?_)))
 show wpAny _ _ (holding [Value.builtin "object.__class__"] (call (Value.builtin "getset_descriptor.__get__") [Value.builtin "object.__class__",.ref x,.ref C]) >>=ret) _ _ _
 refine wpAny_bind (wpAny_holding (wpAny_call (PySem.W.class_get (s:=⟨hh,g,d,t+1,os⟩) (od:=od) X I F.hm (wpAny_pure ?_))))
 exact PySem.W.handed_on rfl (wpAny_pure h)
set_option tactic.hygienic true in
theorem afu (F:IK K C):PySem.W.KitX K (.ref x) (.ref C) (λ h=>PySem.W.InstAt h x ox C od) where
 ty:=λ Z Z Z I=>I.type
 it :=λ Z Z X Z=>by
  obtain⟨cd,hcd⟩:=Option.isSome_iff_exists.mp F.cl
  unfold PySem.W.clsIn at hcd
  split at hcd
  ·rename_i v1 v2 v3 v4 ho
   intro A' Q' E' s' k q
   unfold isType loadHead
   exact wpAny_bind (wpAny_loadPart (k _ _ (X _ _ ho)) (wpAny_pure q))
  ·cases hcd
 ne :=λ h tp dd its n sl X htp=>by
  obtain⟨cd,hcd⟩:=Option.isSome_iff_exists.mp F.cl
  refine Bool.eq_false_iff.mpr λ q=>?_
  have e:C=tp:=Value.ref.inj (beq_iff_eq.mp q)
  subst e
  unfold PySem.W.clsIn at hcd
  split at hcd
  ·rename_i v1 v2 v3 v4 ho
   cases (X _ _ ho).symm.trans htp
  ·cases hcd
 ca:=λ X I k=>adA X I F k
end
section
variable {X:Cx} {sub:Str->Str->Bool}
theorem aaR {T:Str} {vt:V} {ut:Value} (hut:∀u,RelV vt u->u=ut) (hq:∀c C,sub c c=true->PySem.W.nsIn X.K mainGlobals c=some (some (.ref C))->IK X.K C/\PySem.W.kitOne X.K (.ref C) ut=some (sub c T)):
  CallR X (.builtin "isinstance") (λ xs H Q=>∃x c,xs=[x,vt]/\sub c c=true/\qP X.K H (.exc c) x/\Q (.bl (sub c T)) H):=by
 intro pins s σ H xs us Q I r h
 obtain⟨x,c,rfl,hc,⟨a,o,C,rfl,hH,h1,h2,⟨vs,h3⟩,h4⟩,q⟩:=h
 obtain⟨u,u2,rfl,rx,r2⟩:=vals2 r
 cases (show u=Value.ref a from rx)
 cases hut u2 r2
 obtain⟨F,e⟩:=hq c C hc h4
 obtain⟨ho,_⟩:=I.hok a _ hH
 refine PySem.W.kia_one (afu (x:=a) (ox:=o) (od:=none) F) I.kIn ⟨ho,h1,by unfold PySem.W.notCls;rw[h3],by rw[h2];trivial⟩ e (λ z=>nomatch z) λ tk=>⟨.bl _,H,I.tok _,rfl,q⟩
theorem Vb (i:Nat) {T n:Str} {vt:V} {ut:Value} {p p1 p2 pos:Pos} (hg:Gl X "isinstance") (hm:X.mg "isinstance" =none) (hT:PE X (.Name T p2) (tC vt)) (hut:∀u,RelV vt u->u=ut)
  (hq:∀c C,sub c c=true->PySem.W.nsIn X.K mainGlobals c=some (some (.ref C))->IK X.K C/\PySem.W.kitOne X.K (.ref C) ut=some (sub c T))
  (hN:X.N[i]?=some n:=by rfl) (hv:Vis X.env.scope n:=by first |exact Or.inl rfl |exact Or.inr (Or.inl rfl) |exact Or.inr (Or.inr rfl)) (hd:(n ==("__debug__" :Str))=false:=by decide) (hcd:(n ==("__classdict__" :Str))=false:=by decide)
  (hs:starEach [.Name n p1,.Name T p2] X.env=(false,eval (.Name n p1) X.env)::starEach [.Name T p2] X.env:=by rfl) (hs2:starEach [.Name T p2] X.env=(false,eval (.Name T p2) X.env)::starEach [] X.env:=by rfl) (hpl:(backTo pos (starEach [.Name T p2] X.env)).any (·.1)=false:=by rfl):
  DE X (.Call (.Name "isinstance" p) [.Name n p1,.Name T p2] [] pos) (Ih sub i T):=by
 refine PE.imp (pe_callB (aaR (T:=T) hut hq) hg hm boot_isinstance (pa_cons (pe_var hN hv hd hcd) (pa_cons hT pa_nil hs2) hs) (by decide) (by decide) hs hpl) λ σ H Q h=>?_
 obtain⟨ρ,O,j,h⟩:=h
 unfold Ih at h
 cases q:ρ[i]? with
 |none=>rw[q] at h;exact h.elim
 | some oe =>
  rw[q] at h
  cases oe with
  |none=>exact h.elim
  | some en=>
   cases en with
   |val _=>exact h.elim
   |lst _=>exact h.elim
   |DY _=>exact h.elim
   | obj t=>
    cases t with
    |fn _=>exact h.elim
    | exc c=>
     have h:good X (rD X) O (if sub c c=true then .ok (.bl (sub c T)) else .bad) σ H Q:=h
     by_cases hc:sub c c=true
     ·rw[if_pos hc] at h
      obtain⟨v,hv1,hv2⟩:=j.env.get i _ q
      exact⟨v,hv1,v,c,rfl,hc,hv2,fin h (gY _)⟩
     ·rw[if_neg hc] at h;exact h.elim
end
section
variable {X:Cx} {tg a:Expr} {p pos:Pos} {fa:aq->R (List D)}
end
section
variable {X:Cx}
theorem ahc:OpR X (binaryOp .Mult) (λ x y H Q=>∃a k xs,x= .ref a/\y= .int k/\SqL X.K H a xs/\1<=k/\k < 2 ^ 63/\xs.length*k.toNat<=1000000/\∀p,H p=none->Q (.ref p) (upd H p (.lst (List.replicate k.toNat xs).flatten))):=by
 intro pins s σ H x y v u Q I rx ry h
 obtain⟨a,k,xs,rfl,rfl,hq,h1,h2,hz,q⟩:=h
 cases rx
 obtain⟨t,rfl⟩:=ry
 obtain⟨its,r,p1,_⟩:=I.list hq
 obtain⟨⟨cls,dd,data,sl⟩,ho,hc,n,hd⟩:=id p1.isList
 simp only at hc hd
 subst hc hd
 have hlen:=r.length
 have hz':its.toArray.size*k.toNat<=1000000:=by rw[z1c,<-hlen];exact hz
 have hz2:its.length*k.toNat<=1000000:=by rw[<-hlen];exact hz
 refine wpAny_binaryOp_repeat_ref (T:= "list") (U:= "int") (by decide) ⟨_,ho,rfl⟩ (λ s'=>typeIs_int s' k t) noFill_list_mul F.fills_int_mul F.slot_int_rmul repeat_list F.slot_int_index.lookup
  (call_meets F.slot_int_rmul (typeIs_int s k t) F.entry_int_rmul (F.args_int_rmul_2 _ _) (lm_int_rmul_list_any k t a its.toArray n dd sl) ⟨ho,rfl,⟨_,ho,rfl⟩,?_⟩)
 refine call_meets F.slot_list_mul ⟨_,ho,rfl⟩ F.entry_list_mul (F.args_list_mul_2 _ _) (lm_list_mul_any a its.toArray n dd sl k t (by simp[Builtin.List.listFitsIndex];omega) (by omega) (by simp[Builtin.List.listTooLong,sizeLine];omega)) ⟨ho,?_⟩
 rw[listMul_foldl_if]
 refine⟨.ref s.heap.objs.size,_,I.laid (t':=s.toks) (o:= .lst (List.replicate k.toNat xs).flatten) (λ b ob z=>z1a _ z) (z0g _) ?_,rfl,q _ (I.hok.fresh (z0g _))⟩
 exact⟨by rw[len_rep,Nat.mul_comm];exact z0b hz gk,_,_,r.rep k.toNat,z1f _ rfl⟩
theorem ahd:lD X (binaryOp .Mult) mulL:=by
 obtain⟨r0,o0,c0⟩:=Ia (X:=X)
 refine⟨_,OpR.or o0 ahc,λ ρ O σ H Q x y dx dy j0 rx ry h=>?_⟩
 cases dx with
 | lst ds=>
  cases dy with
  | int k=>
   have h:good X (rD X) O (if ds≠[]/\1<=k/\k < 2 ^ 63/\ds.length*k.toNat<=1000000 then .ok (.lst (List.replicate k.toNat ds).flatten) else .bad) σ H Q:=h
   by_cases hc:ds≠[]/\1<=k/\k < 2 ^ 63/\ds.length*k.toNat<=1000000
   ·rw[if_pos hc] at h
    obtain⟨a,us,rfl,ha,hn,r1⟩:=rx.lst
    obtain⟨h0,h1,h2,h3⟩:=hc
    exact .inr ⟨a,k,us,rfl,ry.int,ha,h1,h2,by rw[<-r1.length];exact h3,λ l hl=>h _ _ (Same.upd hl) (Rep.nM hl (j0.vZ hl) (Jx r1 _))⟩
   ·rw[if_neg hc] at h;exact h.elim
  |_=>exact h.elim
 |_=>exact .inl (c0 ρ O σ H Q x y _ _ j0 rx ry h)
end
theorem Tb.same {ts:List (Addr×Str)} {H H':Hp} (t:Tb ts H) (s:Same H H'):Tb ts H':=λ p hp=>let ⟨ps,tq,e,q⟩:=t p hp;⟨ps,tq,s _ _ e,q⟩
theorem KY {α β:Type} {F:α->β->Prop}:∀{es:List α} {vs:List β} {i:Nat} {e:α},Paired F es vs->es[i]?=some e->∃v,vs[i]?=some v/\F e v
 |_,_,_,_,.nil,h=>by simp at h
 |_,_,0,_,.cons r _,h=>by simp at h;subst h;exact⟨_,rfl,r⟩
 | _,_,i+1,e,.cons _ t,h=>by
  obtain⟨v,h1,h2⟩:=KY (i:=i) (e:=e) t (by simpa using h)
  exact⟨v,by simpa using h1,h2⟩
theorem aaS {α β:Type} {F:α->β->Prop}:∀{es:List α} {vs:List β},Paired F es vs->es.length=vs.length
 :=by
 intro es vs h
 induction h with
 |nil=>rfl
 |cons r t ih=>rw[List.length_cons,List.length_cons,ih]
theorem KZ {α β:Type} {F:α->β->Prop}:∀{es fs:List α} {vs ws:List β},Paired F es vs->Paired F fs ws->Paired F (es++fs) (vs++ws)
 :=by
 intro es fs vs ws h q
 induction h with
 |nil=>exact q
 |cons r t ih=>exact .cons r ih
noncomputable abbrev ajc (K:PySem.W.Frag) (O:Addr->Prop) (H:Hp):Ent->V->Prop:=λ e v=>tY K O H e v/\e.own=false
theorem yJ {K:PySem.W.Frag} {O:Addr->Prop} {H:Hp}:∀{ds:List D} {vs:List V},aY K O H ds vs->Paired (ajc K O H) (ds.map .val) vs
 |[],vs,r=>by rw[r.nil_inv];exact .nil
 | d::ds,vs,r=>by
  obtain⟨x,t,rfl,h1,h2⟩:=r.cons_inv
  exact .cons ⟨h1,rfl⟩ (yJ h2)
theorem JD {X:Cx} {O:Addr->Prop} {H:Hp} {es:List Ent} {vs:List V} {m:Nat} (hl:X.N.length=es.length+m) (r:Paired (ajc X.K O H) es vs) (al:∀a,O a->∃o,H a=some o):
  At X H O O H (es.map some++List.replicate m none) (vs.map some++List.replicate m none):=by
 have hlen:=aaS r
 have get:∀(i:Nat) e,(es.map some++List.replicate m none)[i]?=some (some e)->∃v,(vs.map some++List.replicate m none)[i]?=some (some v)/\tY X.K O H e v/\e.own=false:=λ i e q=>by
  by_cases hi:i < es.length
  ·rw[List.getElem?_append_left (by simpa using hi),z2b] at q
   cases z:es[i]? with
   |none=>rw[z] at q;injection q
   | some e'=>
    rw[z] at q;cases q
    obtain⟨v,h1,h2,h3⟩:=KY r z
    exact⟨v,by rw[List.getElem?_append_left (by rw[z1g,<-hlen];exact hi),z2b,h1];rfl,h2,h3⟩
  ·rw[List.getElem?_append_right (by simpa using hi),List.getElem?_replicate] at q
   split at q <;> (first |(injection q with aD;injection aD) |injection q)
 refine⟨Same.refl _,.refl,λ Z z=>z,⟨⟨λ i e q=>?_,λ i k e e' v Z hi Z oi=>?_⟩,al,?_,?_⟩,λ i e a q ho=>?_⟩
 ·obtain⟨v,h1,h2,_⟩:=get i e q
  exact⟨v,h1,h2⟩
 ·obtain⟨_,_,_,h3⟩:=get i e hi
  rw[h3] at oi;injection oi
 ·rw[z1d,z1g,List.length_replicate,<-hlen];exact hl.symm
 ·rw[z1d,z1g,List.length_replicate];exact hl.symm
 ·obtain⟨_,_,_,h3⟩:=get i e q
  rw[h3] at ho;injection ho
theorem JF {N:List Str} {vs:List V} {m:Nat} (h:N.length=vs.length+m):L2.start N vs=vs.map some++List.replicate m none:=by
 unfold L2.start
 rw[show N.length - vs.length=m by exact akn h]
noncomputable def spT (ts:List (Addr×Str)) (K:PySem.W.Frag) (n:Nat) (F:List D->R D):Sp:=λ vs H Q E=>Tb ts H/\Us K n F vs H Q E
section
variable {P:Program} {w:World} {K:PySem.W.Frag} {mg:Str->Option Value} {base:Heap}
noncomputable def j7 (m:Nat) (g:aq->So) (es:List Ent):R D:=match g (es.map some++List.replicate m none) with
 | .rt d=> .ok d
 | .nx _=> .ok .non
 |_=> .bad
theorem ZS {X:Cx} {H:Hp} {O:Addr->Prop} {m:Nat} {g:aq->So} {es:List Ent} {Q:VK} (h:match j7 m g es with | .ok d=>∀v H',Same H H'->Rep X.K O H' d v->Q v H' |_=>False):
  tK X H O O H {nx:=λ Z H'=>Q .non H',rt:=Q} (g (es.map some++List.replicate m none)):=by
 unfold j7 at h
 cases e2:g (es.map some++List.replicate m none) with
 |rt d=>rw[e2] at h;exact λ v H' s' r'=>h v H' s' r'
 |nx ρ'=>rw[e2] at h;exact λ σ' H' O' j' Z=>h .non H' j'.same qO
 |bk _=>rw[e2] at h;exact h.elim
 |ct _=>rw[e2] at h;exact h.elim
 |ex _ _=>rw[e2] at h;exact h.elim
 |bad=>rw[e2] at h;exact h.elim
theorem Vc {x qual:Str} {st:Stmt} {f:Addr} {fd:FuncData} {N ps:List Str} {k n m:Nat} {g:aq->So} {ts:List (Addr×Str)} (Fn:Fun K x qual st f fd) (S:FnScope N ps (defScope st)) (hn:ps.length=n) (hm:N.length=n+m)
  (hb:∀(cdv:Value) (A:Around) (outer:List PySem.Env) (s:Shared) (H:Hp) (E:XK),fd.code=cdv->Room k (A.deeper (envOfC qual (defScope st) s.heap.objs.size f cdv))->Tb ts H->cX (cxOf CX0 P w K mg base N qual (defScope st) f cdv A outer s H E).nox (defBody st) g):
  FnOk P w K mg base CX0 (k+1) f fd ps (spT ts K n (λ ds=>j7 m g (ds.map .val))):=by
 obtain⟨oc,od,kV,doc,pm,an,cdv,ct,osl,rfl,lk,hcd⟩:=Fn.ex
 refine fn_of lk hcd S (λ vs H Q E h=>?_) λ A outer s H vs Q E hr h=>?_
 ·obtain⟨_,O,ds,r,hl,_⟩:=h
  rw[hn,<-hl,r.length]
 ·obtain⟨hT,O,ds,r,hl,al,h⟩:=h
  have IV:N.length=vs.length+m:=by rw[hm,<-hl,r.length]
  refine⟨_,(hb cdv A outer s H E rfl hr hT).nox,H,O,O,(ds.map Ent.val).map some++List.replicate m none,?_,ZS h⟩
  rw[JF IV]
  exact JD (X:=(cxOf CX0 P w K mg base N qual (defScope st) f cdv A outer s H E).nox) (by rw[z1g,r.length];exact IV) (yJ r) al
end
noncomputable def jh (P:Program) (w:World) (K:PySem.W.Frag) (mg:Str->Option Value) (base:Heap) (k:Nat) (x:Str) (n:Nat) (F:List D->R D) (fd:FuncData) (ps:List Str) (ts:List (Addr×Str)):Prop:=
 ∃f,FnOk P w K mg base CX0 k f fd ps (spT ts K n F)/\mg x=some (.ref f)/\PySem.W.keepIn K (.ref f)=true
section
variable {X:Cx} {k m n:Nat} {fd:FuncData} {ps ks:List Str} {F:List D->R D} {x:Str} {p pos:Pos} {e:Expr} {es:List Expr} {kws:List Keyword} {fa fk:aq->R (List D)} {ts:List (Addr×Str)}
theorem wL (G:jh X.prog X.w X.K X.mg X.base k x n F fd ps ts) (hT:Tb ts X.H₀) (hr:Room m X.A) (hkm:k<=m) (hb:Binds X.K fd ps []) (ha:DA X (e::es) fa) (hg:autoParam (Gl X x) bD._auto_1)
  (hdb:autoParam ((x ==("__debug__" :Str))=false) eY._auto_1) (he:autoParam (starEach (e::es) X.env=(false,eval e X.env)::starEach es X.env) bD._auto_1) (hpl:autoParam ((backTo pos (starEach es X.env)).any (·.1)=false) bD._auto_1):
  DE X (.Call (.Name x p) (e::es) [] pos) (aH (bw F n) fa):=by
 obtain⟨f,ok,hm,hk⟩:=G
 intro pins s σ H Q I h
 refine pe_call (dvs:=[]) (ok.mono hkm) hr hg hm hk hb .nil pass0 ha hdb he hpl pins s σ H Q I ?_
 obtain⟨ρ,O,j,h⟩:=h
 refine go j h λ ds vs H1 e1 s1 r1 j1 h1=>?_
 unfold bw at h1
 by_cases hl:ds.length=n
 ·rw[if_pos hl] at h1
  rw[List.append_nil]
  refine⟨(hT.un I.base).same s1,O,ds,r1,hl,j1.al,?_⟩
  cases q:F ds with
  |ok d=>rw[q] at h1;exact h1
  |err c=>rw[q] at h1;exact h1
  |bad=>rw[q] at h1;exact h1
 ·rw[if_neg hl] at h1;exact h1.elim
theorem ahe {sa sb sc} (S:Sel sa sb sc) (G:jh X.prog X.w X.K X.mg X.base k x n F fd ps ts) (hT:Tb ts X.H₀) (hr:Room m X.A) (hkm:k<=m) (hb:KB X.K fd ps ks sa)
  (ha:DA X (e::es) fa) (hkw:DK X kws fk) (hg:autoParam (Gl X x) bD._auto_1) (hall:autoParam ((backToKw pos (keywordEach kws X.env)).all (·.1.isSome)=true) bD._auto_1) (hks:autoParam ((backToKw pos (keywordEach kws X.env)).filterMap (·.1)=ks) bD._auto_1)
  (hdb:autoParam ((x ==("__debug__" :Str))=false) eY._auto_1) (he:autoParam (starEach (e::es) X.env=(false,eval e X.env)::starEach es X.env) bD._auto_1)
  (hpl:((backTo pos (starEach (e::es) X.env)).any (·.1) || (backToKw pos (keywordEach kws X.env)).any (·.1.isNone))=false:=by rfl):
  DE X (.Call (.Name x p) (e::es) kws pos) (HY F n ks.length sc fa fk):=by
 obtain⟨f,ok,hm,hk⟩:=G
 have G:=ok.mono hkm
 intro pins s σ H Q I h
 refine wpAny_Call_Name_kw (ld_glob I hg hm ?_ hdb)
 obtain⟨ρ,O,j,h⟩:=h
 have key:tG X (Iz X) fa σ H λ vs H1=>tG X (Iz X) fk σ H1 λ zs H2=>zs.length=ks.length/\spT ts X.K n F (vs++pickK .non sb zs) H2 Q E0:=by
  refine go j h λ ds vs H1 e1 s1 r1 j1 h1=>?_
  refine go j1 h1 λ zd zs H2 e2 s2 r2 j2 h2=>?_
  by_cases hz:zd.length=ks.length
  ·rw[if_pos hz] at h2
   unfold bw at h2
   by_cases hl:(ds++pickK .non sc zd).length=n
   ·rw[if_pos hl] at h2
    refine⟨by rw[<-r2.length];exact hz,((hT.un I.base).same s1).same s2,O,_,(r1.same s2).append (S.reps r2),hl,j2.al,?_⟩
    cases q:F (ds++pickK .non sc zd) with
    |ok d=>rw[q] at h2;exact h2
    |err c=>rw[q] at h2;exact h2
    |bad=>rw[q] at h2;exact h2
   ·rw[if_neg hl] at h2;exact h2.elim
  ·rw[if_neg hz] at h2;exact h2.elim
 refine PySem.W.callWith_KW (h₀:=X.base) I.ok.mod.kin hk hall (thn (ha pos pins s σ H _ I key) λ us s1 ⟨vs,H1,I1,r,q⟩=>?_) hpl he
 refine thn (hkw pos pins s1 σ H1 _ I1 q) λ ws s2 ⟨zs,H2,I2,rz,q2⟩=>⟨I2.kIn,?_⟩
 rw[hks]
 obtain⟨hz,q2⟩:=q2
 have r2:=r.append (S.vals rz)
 have hl:(us++pickK .none sa ws).length=ps.length:=by rw[<-r2.length];exact G.len _ _ _ _ q2
 refine wpAny_call (codeAny_mono (G.run X.A X.stack s2 H2 ⟨us,ks.zip ws⟩ _ _ Q E0 hr I2.env0 (hb s2 us ws I2.kIn (by rw[z1d,yH] at hl;exact hl) (by rw[<-rz.length];exact hz)) r2 q2) λ r s' hq=>?_)
 cases r with
 |error e=>exact pass0 pins σ H2 s2 e s' I2 hq
 | ok fl=>
  cases fl with
  |ret u=>exact I2.after hq
  |next=>exact False.elim hq
  |brk=>exact False.elim hq
  |cont=>exact False.elim hq
theorem ahf {sa sb sc} (S:Sel sa sb sc) (G:jh X.prog X.w X.K X.mg X.base k x n F fd ps ts) (hT:Tb ts X.H₀) (hr:Room m X.A) (hkm:k<=m) (hb:KB X.K fd ps [] sa)
  (ha:DA X (e::es) fa) (hg:Gl X x:=by rfl) (hdb:(x ==("__debug__" :Str))=false:=by decide) (he:starEach (e::es) X.env=(false,eval e X.env)::starEach es X.env:=by rfl) (hpl:(backTo pos (starEach es X.env)).any (·.1)=false:=by rfl):
  DE X (.Call (.Name x p) (e::es) [] pos) (HY F n 0 sc fa (λ Z=> .ok [])):=by
 obtain⟨f,ok,hm,hk⟩:=G
 intro pins s σ H Q I h
 refine pe_call (ds:=pickK .none sa []) (dvs:=pickK .non sb []) (ok.mono hkm) hr hg hm hk (λ s us i hl=>hb s us [] i (by rw[z1d,yH] at hl;exact hl) rfl) (S.vals .nil) pass0 ha hdb he hpl pins s σ H Q I ?_
 obtain⟨ρ,O,j,h⟩:=h
 refine go j h λ ds vs H1 e1 s1 r1 j1 h1=>?_
 have h1:good X (rD X) O (bw F n (ds++pickK .non sc [])) σ H1 Q:=h1
 unfold bw at h1
 by_cases hl:(ds++pickK .non sc []).length=n
 ·rw[if_pos hl] at h1
  refine⟨(hT.un I.base).same s1,O,_,r1.append (S.reps .nil),hl,j1.al,?_⟩
  cases q:F (ds++pickK .non sc []) with
  |ok d=>rw[q] at h1;exact h1
  |err c=>rw[q] at h1;exact h1
  |bad=>rw[q] at h1;exact h1
 ·rw[if_neg hl] at h1;exact h1.elim
end
theorem X3 {a b:Int} {s t:Tok} {c:Value} (l:List Value) (h:TriplesOk l):TriplesOk (l++[.int a s,.int b t,c]):=by
 fun_induction TriplesOk l with
 |case1=>simp[TriplesOk]
 |case2 x1 x2 x3 x4 x5 rest ih=>simp only[List.cons_append,TriplesOk];exact ih h
 |case3=>exact h.elim
set_option tactic.hygienic true in
theorem adB {a b:Int} {s t:Tok} {c cv:Value} {pos:Pos} (l:List Value) (h:TriplesOk l) (e:codeAmong pos (l++[.int a s,.int b t,c])=some cv):codeAmong pos l=some cv\/cv=c:=by
 fun_induction TriplesOk l with
 | case1=>
  simp only[List.nil_append,codeAmong] at e
  split at e
  ·(injection e with aD;subst aD);exact .inr rfl
  ·injection e
 | case2 x1 x2 x3 x4 x5 rest ih=>
  simp only[List.cons_append,codeAmong] at e |-
  split at e
  ·rename_i z;rw[if_pos z];exact .inl e
  ·rename_i z;rw[if_neg z];exact ih h e
 |case3=>exact h.elim
inductive m9 (H:Hp) (a:Addr) (name qual:Str) (params:Arguments) (body:List Stmt) (scope:Scope) (clos:List (Str×Addr)):Prop
 |mk (fo:Obj) (doc pm:Value) (c':Addr) (ctv:Value) (oc:Obj) (vs:Array Value) (t:Tok) (h1:H a=some (.frz fo (.own a))) (h2:fo.data= .func (PySem.W.fnX name qual params body scope clos .none .none doc pm none (.ref c') ctv)) (h3:H c'=some (.frz oc (.own c'))) (h4:oc.data= .fields vs) (h5:vs[1]?=some (.str qual t)):m9 H a name qual params body scope clos
theorem m9.fz {H H':Hp} {a:Addr} {name qual:Str} {params:Arguments} {body:List Stmt} {scope:Scope} {clos:List (Str×Addr)} (h:m9 H a name qual params body scope clos) (s:∀b o u,H b=some (.frz o u)->H' b=some (.frz o u)):m9 H' a name qual params body scope clos:=
 by
 obtain⟨fo,doc,pm,c',ctv,oc,vs,t,h1,h2,h3,h4,h5⟩:=h
 exact⟨fo,doc,pm,c',ctv,oc,vs,t,s _ _ _ h1,h2,s _ _ _ h3,h4,h5⟩
structure sV (base:Heap) (mg:Str->Option Value) (c P:Addr):Prop where
 code:PySem.W.CodeHd base c P
 blt:∃bm ob,mg "__builtins__" =some (.ref bm)/\bm≠builtinsNs/\base.get? bm=some ob/\ob.cls= .type "module"/\ob.dict=some builtinsNs/\ob.data= .plain
section
variable {X:Cx} {pins:List (Addr×Obj)} {σ:St} {H:Hp} {s:Shared}
theorem ahg {M:Model} {A:Around} {E:Value->Shared->Prop} {name qual:Str} {params:Arguments} {body:List Stmt} {scope:Scope} {clos:List (Str×Addr)} {pos:Pos} {line:Nat} {c P:Addr} {ps:Array Value} {tq:Tok}
  (I:Inv X pins σ H s) (hB:sV X.base X.mg c P) (hc:X.env.code= .ref c) (e0:H P=some (.tbl ps)) (q0:ps[0]?=some (.str qual tq)) (hcl:closureFor scope X.env=pure clos):
  wpAny M A (makeFunction name qual params (.stmts body) scope X.env [] [] [] pos line) (λ v s'=>∃a H1,v= .ref a/\Inv X pins σ H1 s'/\Same H H1/\m9 H1 a name qual params body scope clos) E s:=by
 refine bc λ zQ=>?_
 obtain⟨qs,hP,tr,al⟩:=I.hok P _ e0
 have hgs:s.heap.Ns mainGlobals X.mg:=I.mod.glob.keeps I.bk
 have C:PySem.W.CodeHd s.heap c P:=hB.code.keeps I.bk
 obtain⟨bm,ob,b1,b2,b3,b4,b5,b6⟩:=hB.blt
 apply zQ;clear zQ
 have hgP:mainGlobals≠P:=λ q=>by
  refine bc λ zQ=>?_
  obtain⟨o,es,ep,e,hd,_⟩:=hgs
  apply zQ;clear zQ
  rw[q,hP] at e;(injection e with aD;subst aD);injection hd
 have hbP:bm≠P:=λ q=>by
  have e:=I.bk _ _ b3
  rw[q,hP] at e;(injection e with aD;subst aD);injection b4
 have hbG:bm≠mainGlobals:=λ q=>by
  refine bc λ zQ=>?_
  obtain⟨o,es,ep,e,hd,_⟩:=I.mod.glob
  apply zQ;clear zQ
  rw[q,e] at b3;cases b3;rw[hd] at b6;injection b6
 have hbb:s.heap.BuiltinsAt X.mg P:=⟨bm,ob,b1,b2,hbG,hbP,I.bk _ _ b3,b4,b5,b6⟩
 refine bc λ zQ=>?_
 cases hf:codeAmong pos qs.toList with
 | some cv=>
  apply zQ;clear zQ
  refine bc λ zQ=>?_
  obtain⟨c',oc,vs,q,t,tq',rfl,h1,h2,h3,h4⟩:=al pos cv hf
  apply zQ;clear zQ
  rw[q0] at h4;(injection h4 with aD;injection aD with cZ yE;subst cZ;subst yE)
  refine PySem.W.makeFunction_hit (mg:=X.mg) hcl I.ok.glob hgs hc C hP tr hf hbb λ ctv doc h' tk hk hsz=>?_
  have I1:Inv X pins σ H {s with heap:=h',toks:=tk}:=I.kept (t':=tk) hk
  have hn:H h'.objs.size=none:=I1.hok.fresh (z0g _)
  refine⟨h'.objs.size,upd H h'.objs.size (.frz _ (.own h'.objs.size)),rfl,I1.laid (t':=tk) (λ b u z=>z1a _ z) (z0g _) ⟨z1f _ rfl,_,z1f _ rfl⟩,Same.upd hn,?_⟩
  exact⟨_,doc,_,c',ctv,oc,vs,t,upd_same,rfl,by rw[upd_ne (ne_of_none h1 hn)];exact h1,h2,h3⟩
 | none =>
  apply zQ;clear zQ
  refine PySem.W.makeFunction_K (mg:=X.mg) hcl I.ok.glob hgs hc C hP tr hf hgP hbb λ c' ctv doc h' tk hx hge hlt hrec htb=>?_
  refine bc λ zQ=>?_
  obtain⟨c2,oc,vs,t,e2,hoc,hd,hv⟩:=hrec
  apply zQ;clear zQ
  (injection e2 with aD;subst aD)
  have hn:H c'=none:=I.hok.fresh hge
  have old:∀b u,H b=some u->upd H c' (.frz oc (.own c')) b=some u:=λ b u z=>by rw[upd_ne (ne_of_none z hn)];exact z
  have I1 : Inv X pins σ (upd H c' (.frz oc (.own c'))) {s with heap:=h',toks:=tk}:=by
   refine I.call' (ch:=[]) rfl ⟨λ b o q n Z Z=>hx b o (λ z=>by rw[z,e0] at n;injection n) q,λ b o q n Z Z=>⟨o.slots,hx b o (λ z=>by rw[z,e0] at n;injection n) q⟩,λ b o q n Z=>?_,λ b o q Z=>?_,λ b xs q=>old _ _ q,λ b o u q=>old _ _ q,λ b p q=>⟨#[],by rw[old _ _ q];simp⟩⟩ (λ b u q=>?_) I.bare (λ b z=>absurd z (by simp))
   ·rw[upd_ne (Nat.ne_of_lt (z0d (z2c q) hge))];exact n
   ·by_cases hb:b=P
    ·rw[hb];exact⟨_,htb⟩
    ·exact⟨o,hx b o hb q⟩
   ·by_cases hb:b=c'
    ·subst hb
     rw[upd_same] at q;(injection q with aD;subst aD)
     exact⟨hoc,oc,hoc⟩
    ·rw [upd_ne hb] at q
     by_cases hp:b=P
     ·subst hp
      rw[e0] at q;(injection q with aD;subst aD)
      refine⟨_,htb,?_,λ p cv z=>?_⟩
      ·have:=X3 (a:=pos.line) (s:=0) (b:=pos.col) (t:=0) (c:=Value.ref c') qs.toList tr
       simpa[rawInt] using this
      ·have z':codeAmong p (qs.toList++[.int pos.line 0,.int pos.col 0,.ref c'])=some cv:=by simpa[rawInt] using z
       refine bc λ zQ=>?_
       rcases adB _ tr z' with z1 |z1
       ·apply zQ;clear zQ
        refine bc λ zQ=>?_
        obtain⟨c3,o3,v3,q3,t3,tq3,y1,y2,y3⟩:=al p cv z1
        apply zQ;clear zQ
        exact⟨c3,o3,v3,q3,t3,tq3,y1,old _ _ y2,y3⟩
       ·apply zQ;clear zQ
        exact⟨c',oc,vs,qual,t,tq,z1,upd_same,hd,hv,q0⟩
     ·exact (I.hok b u q).stay (λ d v hd z=>hx d v (λ y=>hd.elim (λ x=>hp (x.symm.trans y)) λ x=>by rw[y,e0] at x;(injection x with aD;injection aD)) z) (λ d z=>old _ _ z) (λ d xs z=>old _ _ z) λ d o u Z z=>old _ _ z
  have hn2:upd H c' (.frz oc (.own c')) h'.objs.size=none:=I1.hok.fresh (z0g _)
  refine⟨h'.objs.size,upd (upd H c' (.frz oc (.own c'))) h'.objs.size (.frz _ (.own h'.objs.size)),rfl,I1.laid (t':=tk) (λ b u z=>z1a _ z) (z0g _) ⟨z1f _ rfl,_,z1f _ rfl⟩,(Same.upd hn).trans (Same.upd hn2),?_⟩
  exact⟨_,doc,_,c',ctv,oc,vs,t,upd_same,rfl,by rw[upd_ne (Nat.ne_of_lt hlt),upd_same],hd,hv⟩
noncomputable def am6 (i:Nat) (name qual:Str) (params:Arguments) (body:List Stmt) (scope:Scope) (clos:List (Str×Addr)):TS:=λ D σ H=>∀a H1,Same H H1->m9 H1 a name qual params body scope clos->D.nx (σ.set i (some (.ref a))) H1
theorem ajd (i:Nat) {name qual:Str} {params:Arguments} {body:List Stmt} {scope:Scope} {clos:List (Str×Addr)} {pos:Pos} {c P:Addr} (hN:X.N.Nodup) (hB:sV X.base X.mg c P) (hT:Tb [(P,qual)] X.H₀) (hc:X.env.code= .ref c) (hcl:closureFor scope X.env=pure clos)
  (hi:autoParam (X.N[i]?=some name) bD._auto_1) (hl:autoParam (Loc X.env.scope name) vC._auto_1) (hq:autoParam (qualnameIn X.env name name=qual) bD._auto_1) (hd0:autoParam (params.defaults=[]) bD._auto_1) (hk0:autoParam (params.kw_defaults=[]) bD._auto_1) (ha:autoParam (annTrees params none X.env=[]) bD._auto_1)
  (hf:autoParam (X.fn name=true\/X.env.scope.names.lookup name=some .local) vD._auto_1):PS X (.FunctionDef name params body [] none [] scope none name pos) (am6 i name qual params body scope clos):=by
 intro pins s σ H D I h
 obtain⟨ps,tq,e0,q0⟩:=(hT.un I.base) (P,qual) (by simp)
 refine PySem.W.nestDef_K hd0 hk0 ha ?_
 rw[hq]
 refine wpAny_mono (ahg I hB hc e0 q0 hcl) (λ v s1 ⟨a,H1,ev,I1,sm,fh⟩=>?_) λ Z Z z=>z
 subst ev
 exact store_ok I1 hN hi hl (v:= .ref a) rfl (λ s2 I2=>⟨_,H1,I2,h a H1 sm fh⟩) hf
end
noncomputable def Ep (P:Program) (w:World) (K:PySem.W.Frag) (mg:Str->Option Value) (base:Heap) (k:Nat) (G:List D->R D) (n:Nat) (a:Addr) (H:Hp):Prop:=
 ∀ (A:Around) (outer:List PySem.Env) (s:Shared) (H1:Hp) (us:List Value) (vs:List V) (Q:VK) (E:XK),Room k A->Env0 P w K mg base A outer s H1->(∀b o u,H b=some (.frz o u)->H1 b=some (.frz o u))->Vals vs us->Us K n G vs H1 Q E->
  codeAny (model P w) A (.call (.ref a) ⟨us,[]⟩) (CR CX0 outer P w H1 s Q E) s
noncomputable def Ii (i a:Nat) (G:List D->R D) (n:Nat) (fa:aq->R (List D)):aq->R D:=λ ρ=>match ρ[i]? with
 |some (some (.obj (.fn b)))=>if b=a then (fa ρ).bind (bw G n) else .bad
 |_=> .bad
section
variable {X:Cx} {k m n:Nat} {G:List D->R D} {x:Str} {p pos:Pos} {e:Expr} {es:List Expr} {fa:aq->R (List D)} {a:Addr}
theorem Vd (i:Nat) (hc:Ep X.prog X.w X.K X.mg X.base k G n a X.H₀) (hr:Room m X.A) (hkm:k<=m) (ha:DA X (e::es) fa) (hN:autoParam (X.N[i]?=some x) bD._auto_1) (hv:autoParam (Vis X.env.scope x) Zt._auto_1)
  (hd:autoParam ((x ==("__debug__" :Str))=false) eY._auto_1) (hcd:autoParam ((x ==("__classdict__" :Str))=false) eY._auto_1) (he:autoParam (starEach (e::es) X.env=(false,eval e X.env)::starEach es X.env) bD._auto_1) (hpl:autoParam ((backTo pos (starEach es X.env)).any (·.1)=false) bD._auto_1):
  DE X (.Call (.Name x p) (e::es) [] pos) (Ii i a G n fa):=by
 intro pins s σ H Q I h
 obtain⟨ρ,O,j,h⟩:=h
 unfold Ii at h
 rcases q:ρ[i]? with _ |_ |(_ |_ |_ |(_ |b)) <;> rw[q] at h
 ·exact h.elim
 ·exact h.elim
 ·exact h.elim
 ·exact h.elim
 ·exact h.elim
 ·exact h.elim
 ·dsimp only at h
  by_cases hb:b=a
  ·subst hb
   rw[if_pos rfl] at h
   obtain⟨v,hv1,rfl,o,fd,ho,hod⟩:=j.env.get i _ q
   have at':∀{s':Shared} {H':Hp},Inv X pins σ H' s'->Same H H'->PySem.W.FnAt b s'.heap:=λ {s' H'} I' sm=>by
    obtain⟨ho',_⟩:=I'.hok b _ (sm _ _ ho)
    obtain⟨v1,v2,v3,v4⟩:=o
    have hod:v3= .func fd:=hod
    subst hod
    exact⟨v1,v2,fd,v4,ho'⟩
   refine wpAny_Call_Name_kw (thn (pe_var hN hv hd hcd pins s σ H (λ v H1=>v= .ref b/\H1=H) I ⟨_,hv1,rfl,rfl⟩) λ u s1 bW=>?_)
   obtain⟨v',H1,I1,r1,e1,e2⟩:=bW
   subst e1 e2
   obtain rfl:u=Value.ref b:=r1
   have key:tG X (Iz X) fa σ H1 (λ vs H2=>Same H1 H2/\Us X.K n G vs H2 Q E0):=by
    refine go j h λ ds vs H2 e1 s2 r2 j2 h2=>⟨s2,?_⟩
    unfold bw at h2
    by_cases hl:ds.length=n
    ·rw[if_pos hl] at h2
     refine⟨O,ds,r2,hl,j2.al,?_⟩
     cases q:G ds with
     |ok d=>rw[q] at h2;exact h2
     |err c=>rw[q] at h2;exact h2
     |bad=>rw[q] at h2;exact h2
    ·rw[if_neg hl] at h2;exact h2.elim
   refine PySem.W.callWith_F (at' I1 (Same.refl _)) (thn (ha pos pins s1 σ H1 _ I1 key) λ us s2 ⟨vs,H2,I2,r,sm,q2⟩=>⟨at' I2 sm,?_⟩) he hpl
   refine wpAny_call (codeAny_mono (hc X.A X.stack s2 H2 us vs Q E0 (hr.mono hkm) I2.env0 I2.base.frzs r q2) λ r s' hq=>?_)
   cases r with
   |error e=>exact pass0 pins σ H2 s2 e s' I2 hq
   | ok fl=>
    cases fl with
    |ret u=>exact I2.after hq
    |next=>exact False.elim hq
    |brk=>exact False.elim hq
    |cont=>exact False.elim hq
  ·rw[if_neg hb] at h;exact h.elim
end
inductive SpS (P:Program) (w:World) (mg:Str->Option Value) (base:Heap) (k:Nat) (K:PySem.W.Frag) (n q:Nat) (F:Addr->(List D->R D)->List D->R D) (vs:List V) (H:Hp) (Q:VK):Prop
 | mk (O:Addr->Prop) (ds:List D) (xs:List V) (a:Addr) (G:List D->R D) (e:vs=xs++[.ref a]) (r:aY K O H ds xs) (hl:ds.length=n) (al:∀b,O b->∃o,H b=some o) (ro:qP K H (.fn a) (.ref a)) (hc:Ep P w K mg base k G q a H) (h:match F a G ds with
  | .ok d=>∀v H',Same H H'->Rep K O H' d v->Q v H'
  |_=>False):SpS P w mg base k K n q F vs H Q
noncomputable def spS (P:Program) (w:World) (mg:Str->Option Value) (base:Heap) (k:Nat) (K:PySem.W.Frag) (n q:Nat) (F:Addr->(List D->R D)->List D->R D):Sp:=λ vs H Q Z=>SpS P w mg base k K n q F vs H Q
section
variable {P:Program} {w:World} {K:PySem.W.Frag} {mg:Str->Option Value} {base:Heap}
theorem fnS {x qual:Str} {st:Stmt} {f:Addr} {fd:FuncData} {N ps:List Str} {k kG n m q:Nat} {g:Addr->(List D->R D)->aq->So} (Fn:Fun K x qual st f fd) (S:FnScope N ps (defScope st)) (hn:ps.length=n+1) (hm:N.length=n+1+m)
  (hb:∀(cdv:Value) (A:Around) (outer:List PySem.Env) (s:Shared) (H:Hp) (E:XK) (a:Addr) (G:List D->R D),Room k (A.deeper (envOfC qual (defScope st) s.heap.objs.size f cdv))->Ep P w K mg base kG G q a H->cX (cxOf CX0 P w K mg base N qual (defScope st) f cdv A outer s H E).nox (defBody st) (g a G)):
  FnOk P w K mg base CX0 (k+1) f fd ps (spS P w mg base kG K n q (λ a G ds=>j7 m (g a G) (ds.map .val++[.obj (.fn a)]))):=by
 obtain⟨oc,od,kV,doc,pm,an,cdv,ct,osl,rfl,lk,hcd⟩:=Fn.ex
 refine fn_of lk hcd S (λ vs H Q E h=>?_) λ A outer s H vs Q E hr h=>?_
 ·obtain⟨O,ds,xs,a,G,rfl,r,hl,_⟩:=h
  rw[hn,z1d,<-r.length,hl];rfl
 ·obtain⟨O,ds,xs,a,G,rfl,r,hl,al,ro,hc,h⟩:=h
  have IV:N.length=(xs++[V.ref a]).length+m:=by rw[hm,z1d,<-r.length,hl];rfl
  refine⟨_,(hb cdv A outer s H E a G hr hc).nox,H,O,O,(ds.map Ent.val++[Ent.obj (.fn a)]).map some++List.replicate m none,?_,ZS h⟩
  rw[JF IV]
  refine JD (X:=(cxOf CX0 P w K mg base N qual (defScope st) f cdv A outer s H E).nox) (by rw[z1d,z1g,r.length];rw[z1d] at IV;exact IV) (KZ (yJ r) (.cons ⟨ro,rfl⟩ .nil)) al
end
noncomputable def del (H:Hp) (c:Addr):Hp:=λ b=>if b=c then none else H b
theorem lO {H:Hp} {c:Addr}:del H c c=none:=if_pos rfl
theorem dZ {H:Hp} {b c:Addr} (h:b≠c):del H c b=H b:=if_neg h
theorem afv {H:Hp} {b c:Addr} {u:HO} (h:del H c b=some u):b≠c/\H b=some u:=by
 by_cases e:b=c
 ·rw[e,lO] at h;injection h
 ·rw[dZ e] at h;exact⟨e,h⟩
section
variable {P:Program} {w:World} {H:Hp} {h:Heap} {c:Addr} {co:Obj} {u:Option Value}
theorem ZV (x:HOk P w H h) (hc:H c=some (.frz co (.own c))) (hd:co.data= .cell u):HOk P w (del H c) h:=λ b v q=>by
 obtain⟨nb,q⟩:=afv q
 refine (x b v q).stay (λ Z Z Z z=>z) (λ d z=>?_) (λ d xs z=>?_) λ d o v' hv z=>?_
 ·rw[dZ (λ e=>by rw[e,hc] at z;(injection z with aD;injection aD))];exact z
 ·rw[dZ (λ e=>by rw[e,hc] at z;(injection z with aD;injection aD))];exact z
 ·rw[dZ (λ e=>by rw[e,hc] at z;(injection z with aD;injection aD with cZ yE;subst cZ;subst yE);obtain⟨vs,y⟩:=hv;rw[hd] at y;injection y)];exact z
theorem ZW (x:HOk P w H h) (hn:H c=none) (ho:h.get? c=some co):HOk P w (upd H c (.frz co (.own c))) h:=λ b v q=>by
 have old:∀b u,H b=some u->upd H c (.frz co (.own c)) b=some u:=λ b u z=>by rw[upd_ne (ne_of_none z hn)];exact z
 by_cases hb:b=c
 ·subst hb
  rw[upd_same] at q;(injection q with aD;subst aD)
  exact⟨ho,co,ho⟩
 ·rw[upd_ne hb] at q
  exact (x b v q).stay (λ Z Z Z z=>z) (λ d z=>old _ _ z) (λ d xs z=>old _ _ z) λ d o v' Z z=>old _ _ z
theorem ZX {O:Addr->Prop} (hc:H c=some (.frz co (.own c))):Ext O H (del H c):=by
 refine⟨λ b xs z=>?_,λ b xs Z z=>?_⟩
 ·have nb:b≠c:=λ e=>by rcases z with z |⟨o,z⟩ <;> rw[e,hc] at z <;> (first |(injection z with aD;injection aD with cZ yE;subst cZ;injection yE) |(injection z with aD;injection aD))
  rcases z with z |⟨o,z⟩
  ·exact .inl (by rw[dZ nb];exact z)
  ·exact .inr ⟨o,by rw[dZ nb];exact z⟩
 ·have nb:b≠c:=λ e=>by rcases z with z |⟨o,z⟩ <;> rw[e,hc] at z <;> (first |(injection z with aD;injection aD with cZ yE;subst cZ;injection yE) |(injection z with aD;injection aD))
  rcases z with z |⟨o,z⟩
  ·exact .inl (by rw[dZ nb];exact z)
  ·exact .inr ⟨o,by rw[dZ nb];exact z⟩
end
section
variable {M:Model} {A:Around} {E:Value->Shared->Prop} {s:Shared}
theorem K1 {env env':PySem.Env} (f f':Str×Value->PUnit->Sem (ForInStep PUnit)) (hf:∀n v u,f (n,v) u=(do storeName env n v;pure (.yield ⟨⟩))) (hf':∀n v u,f' (n,v) u=(do storeName env' n v;pure (.yield ⟨⟩))):
  ∀binds:List (Str×Value),(∀x∈binds,∀v,storeName env x.1 v=storeName env' x.1 v)->(forIn binds (⟨⟩:PUnit) f:Sem PUnit)=forIn binds (⟨⟩:PUnit) f'
 |[],_=>rfl
 | (n,v)::r,h=>by
  rw[List.forIn_cons,List.forIn_cons,hf,hf',h (n,v) List.mem_cons_self v]
  simp only[bind_assoc,pure_bind]
  rw[K1 f f' hf hf' r λ x hx=>h x (z2f _ hx)]
theorem Z0 {env:PySem.Env} {n:Str} {v:Value} (hk:env.scope.kind= .function) (h:env.scope.names.lookup n=some .local):storeName env n v=nsSet env.locals n v:=by
 have h:env.kindOf n=some .local:=h
 simp[storeName,h,hk]
theorem Z1 {env:PySem.Env} {n:Str} {v:Value} {d:Addr} (hk:env.scope.kind= .function) (h:env.scope.names.lookup n=some .cell) (hd:env.cells.lookup n=some d):storeName env n v=cellSet d (some v):=by
 have h:env.kindOf n=some .cell:=h
 simp[storeName,h,hk,cellOf,hd]
theorem X4 {scope:Scope} {globals:Addr} {clos:List (Str×Addr)} {binds:List (Str×Value)} {qual:Str} {func:Option Addr} {code:Value} {builtins:Addr} {Q:PySem.Env->Shared->Prop}
  (hk:scope.kind= .function)
  (hkind:∀x∈binds,scope.names.lookup x.1=some .local\/(scope.names.lookup x.1=some .cell/\((cellsFrom (s.heap.objs.size+1) scope.names []).lookup x.1).isSome=true))
  (hQ:∀s',InCallC s s.heap.objs.size (bindL (λ q=>scope.names.lookup q) binds λ Z=>none) (cellsFrom (s.heap.objs.size+1) scope.names []) (bindC (λ q=>scope.names.lookup q) binds λ Z=>none) s'->
   Q (newEnv scope s.heap.objs.size globals (cellsFrom (s.heap.objs.size+1) scope.names []++clos) qual func code none builtins) s'):
  wpAny M A (newFunctionEnv scope globals clos binds qual func code none builtins) Q E s:=by
 simp only[newFunctionEnv,Option.isSome_none,Bool.false_eq_true,if_false]
 refine wpAny_bind (wpAny_alloc ?_)
 refine wpAny_bind (wpAny_layCells _ (λ name kind cells=>by cases hkc:kind ==NameKind.cell <;> simp[hkc]) _ _ _ _ ?_)
 have ok:=cellsFrom_ok scope.names (s.heap.push {cls:= .type "frame",data:= .dict #[]}) (s.heap.objs.size+1) [] ⟨λ Z Z hm=>(nomatch hm),List.Pairwise.nil⟩ (by rw[Heap.size_push];exact z0g _)
 rw[Heap.size_push] at ok
 rw[show ({s with heap:=s.heap.push {cls:= .type "frame",data:= .dict #[]}}:Shared).heap.objs.size=s.heap.objs.size+1 from Heap.size_push ..]
 rw[fM]
 have eq:=K1 (env:=newEnv scope s.heap.objs.size globals (cellsFrom (s.heap.objs.size+1) scope.names []++clos) qual func code none builtins) (env':=newEnv scope s.heap.objs.size globals (cellsFrom (s.heap.objs.size+1) scope.names []) qual func code none builtins)
  (λ x Z=>do storeName (newEnv scope s.heap.objs.size globals (cellsFrom (s.heap.objs.size+1) scope.names []++clos) qual func code none builtins) x.1 x.2;pure (.yield ⟨⟩))
  (λ x Z=>do storeName (newEnv scope s.heap.objs.size globals (cellsFrom (s.heap.objs.size+1) scope.names []) qual func code none builtins) x.1 x.2;pure (.yield ⟨⟩)) (λ Z Z Z=>rfl) (λ Z Z Z=>rfl) binds (λ x hx v=>by
   rcases hkind x hx with z |⟨z,z2⟩
   ·rw[Z0 hk z,Z0 hk z];rfl
   ·obtain⟨d,hd⟩:=Option.isSome_iff_exists.mp z2
    have e1:(cellsFrom (s.heap.objs.size+1) scope.names []++clos).lookup x.1=some d:=by rw[List.lookup_append,hd];rfl
    rw[Z1 hk z e1,Z1 hk z hd])
 refine wpAny_bind ?_
 show wpAny M A (forIn binds (⟨⟩:PUnit) (λ x Z=>do storeName (newEnv scope s.heap.objs.size globals (cellsFrom (s.heap.objs.size+1) scope.names []++clos) qual func code none builtins) x.1 x.2;pure (.yield ⟨⟩))) _ E _
 rw[eq]
 exact wpAny_bindParams (s₀:=s) (env:=newEnv scope s.heap.objs.size globals (cellsFrom (s.heap.objs.size+1) scope.names []) qual func code none builtins)
  _ (λ Z Z Z=>rfl) hk binds (λ Z=>none) (λ Z=>none) _ _
  ⟨⟨⟨_,_,rfl⟩,(Heap.Ns.new s.heap (.type "frame")).keeps (pushCells_keeps _ _),λ b o e=>pushCells_keeps _ _ b o (z1a _ e),z0g _⟩,
   λ n c hc=>(ok.empty n c (mem_of_lookup hc)).1,ok.apart,λ n c hm=>(ok.empty n c hm).2⟩
  hkind λ s' x=>wpAny_pure (hQ s' x)
end
structure N8 (N P:List Str) (y:Str) (sc:Scope):Prop where
 kind:sc.kind= .function
 co:sc.isCoroutine=false
 gen:sc.isGenerator=false
 nd:N.Nodup
 pre:N.take (P.length+1)=P++[y]
 par:∀x∈P,sc.names.lookup x=some .local\/sc.names.lookup x=some .cell
 Q0:sc.names.lookup y=some .free
 only:∀z∈sc.names,z.2= .free->z.1=y
 cel:∀z∈sc.names,z.2= .cell->sc.names.lookup z.1=some .cell
section
variable (P:Program) (w:World) (K:PySem.W.Frag) (mg:Str->Option Value) (base:Heap) (N:List Str) (qual:Str) (scope:Scope) (f:Addr) (cd:Value) (A:Around) (outer:List PySem.Env) (s:Shared) (H:Hp) (y:Str) (c:Addr)
noncomputable abbrev BP:PySem.Env:=PySem.W.envX qual scope s.heap.objs.size f cd (cellsFrom (s.heap.objs.size+1) scope.names []++[(y,c)])
noncomputable def BR:Cx where
 prog:=P
 w:=w
 K:=K
 mg:=mg
 base:=base
 A:=A.deeper (BP qual scope f cd s y c)
 N:=N
 s₀:=s
 H₀:=H
 env:=BP qual scope f cd s y c
 outer:=outer
 stack:=BP qual scope f cd s y c::outer
 ex:=[]
 calm:=true
 fn:=λ x=>decide (x≠y)
 pn:=[]
 xe:=λ Z Z=>False
end
section
variable {P:Program} {w:World} {K:PySem.W.Frag} {mg:Str->Option Value} {base:Heap}
theorem aje {N ps:List Str} {qual:Str} {scope:Scope} {f:Addr} {cd:Value} {A:Around} {outer:List PySem.Env} {s s1:Shared} {H:Hp} {us:List Value} {vs:List V} {y:Str} {c:Addr} {vy:V} {uy:Value}
  (S:N8 N ps y scope) (hd:A.handled=none) (e0:Env0 P w K mg base A outer s H) (hl:vs.length=ps.length) (r:Vals vs us) (hc:s.heap.IsCell c (some uy)) (hy:RelV vy uy) (hHc:H c=none)
  (x:InCallC s s.heap.objs.size (bindL (λ q=>scope.names.lookup q) (ps.zip us) λ Z=>none) (cellsFrom (s.heap.objs.size+1) scope.names []) (bindC (λ q=>scope.names.lookup q) (ps.zip us) λ Z=>none) s1):
  Inv (BR P w K mg base N qual scope f cd A outer s H y c) [] (start N (vs++[vy])) H s1:=by
 have hpl:ps.length+1<=N.length:=by have:=congrArg List.length S.pre;rw[List.length_take,z1d,List.length_singleton] at this;exact ako this
 obtain⟨h1,tk,rfl,hk⟩:=x.done
 have noA:∀b:Addr,b∉(BR P w K mg base N qual scope f cd A outer s H y c).ex:=λ b z=>absurd (show b∈([]:List Addr) from z) (by simp)
 have clt:c < s.heap.objs.size:=hc.lt
 have cells:∀z d,(BP qual scope f cd s y c).cells.lookup z=some d->((cellsFrom (s.heap.objs.size+1) scope.names []).lookup z=some d/\scope.names.lookup z=some .cell)\/(z=y/\d=c):=λ z d q=>by
  have q:(cellsFrom (s.heap.objs.size+1) scope.names []++[(y,c)]).lookup z=some d:=q
  rw[List.lookup_append] at q
  cases e:(cellsFrom (s.heap.objs.size+1) scope.names []).lookup z with
  | some d'=>
   rw[e] at q
   have q:d'=d:=by simpa using q
   subst q
   obtain⟨m1,_⟩:=lY _ _ (PySem.mem_of_lookup e)
   exact .inl ⟨rfl,S.cel _ m1 rfl⟩
  | none=>
   rw[e] at q
   have q:List.lookup z [(y,c)]=some d:=by simpa using q
   rw[List.lookup_cons] at q
   cases hz:z ==y with
   |true=>rw[hz] at q;(injection q with aD;subst aD);exact .inr ⟨by simpa using hz,rfl⟩
   |false=>rw[hz] at q;injection q
 have kept:(BP qual scope f cd s y c).cells.lookup y=some c:=by
  show (cellsFrom (s.heap.objs.size+1) scope.names []++[(y,c)]).lookup y=some c
  rw[List.lookup_append]
  cases e:(cellsFrom (s.heap.objs.size+1) scope.names []).lookup y with
  | some d=>
   obtain⟨m1,_⟩:=lY _ _ (PySem.mem_of_lookup e)
   have:=S.cel _ m1 rfl
   rw[S.Q0] at this;(injection this with aD;injection aD)
  |none=>simp[List.lookup_cons]
 refine⟨⟨e0.mod,S.kind,rfl,rfl,z0g _,λ z z' d h1 h2=>?_,λ z hz=>?_,λ z d hf h=>?_,λ Z=>hd,Around.frames_deeper e0.frames,.inr ⟨rfl,rfl⟩,λ b z=>absurd z (noA b),e0.bs,e0.bsz,λ b Z Z=>noA b,λ b z=>absurd z (noA b),e0.funs,e0.frf⟩,
  rfl,e0.bare,Un.kept hk,⟨_,x.toInCall.ns,λ i z v h1 h2 h3=>?_⟩,λ z d h=>?_,e0.hok.fresh (z0g _),λ z d h=>?_,λ p hp=>absurd (show p∈([]:List (Addr×Obj)) from hp) (by simp),e0.hok.kept hk,?_⟩
 ·rcases cells z d h1 with⟨q1,_⟩ |⟨q1,q2⟩ <;> rcases cells z' d h2 with⟨q3,_⟩ |⟨q3,q4⟩
  ·exact name_of_addr x.apart (PySem.mem_of_lookup q1) (PySem.mem_of_lookup q3)
  ·have:=x.above z d (PySem.mem_of_lookup q1);rw[q4] at this;exact absurd (Nat.lt_trans clt this) (Nat.lt_irrefl _)
  ·have:=x.above z' d (PySem.mem_of_lookup q3);rw[q2] at this;exact absurd (Nat.lt_trans clt this) (Nat.lt_irrefl _)
  ·rw[q1,q3]
 ·have hz:scope.names.lookup z=some .cell\/scope.names.lookup z=some .free:=hz
  rcases hz with hz |hz
  ·obtain⟨d,e⟩:=cell_has (n:=s.heap.objs.size+1) hz
   exact⟨d,by show (cellsFrom (s.heap.objs.size+1) scope.names []++[(y,c)]).lookup z=some d;rw[List.lookup_append,e];rfl⟩
  ·have e:=S.only _ (PySem.mem_of_lookup hz) rfl
   have e:z=y:=e
   rw[e];exact⟨c,kept⟩
 ·have hf:z≠y:=of_decide_eq_true hf
  rcases cells z d h with⟨q1,_⟩ |⟨q1,_⟩
  ·exact z0e (x.above z d (PySem.mem_of_lookup q1))
  ·exact absurd q1 hf
 ·have hi:i < vs.length+1:=by
   unfold L2.start at h2
   by_cases hi:i < vs.length+1
   ·exact hi
   ·rw[List.getElem?_append_right (by simpa using hi)] at h2
    rw[List.getElem?_replicate] at h2
    split at h2 <;> (first |(injection h2 with aD;injection aD) |injection h2)
  have ha:(vs++[vy])[i]?=some v:=by
   unfold L2.start at h2
   rw[List.getElem?_append_left (by simpa using hi),z2b] at h2
   cases e:(vs++[vy])[i]? with
   |none=>rw[e] at h2;injection h2
   |some a=>rw[e] at h2;cases h2;rfl
  have hp:(ps++[y])[i]?=some z:=by
   rw[<-S.pre,List.getElem?_take_of_lt (by exact akp hi hl)];exact h1
  by_cases hiv:i < vs.length
  ·rw [List.getElem?_append_left hiv] at ha
   rw[List.getElem?_append_left (by exact ain hiv hl)] at hp
   obtain⟨u,hu,rv⟩:=r.get ha
   have ndP:ps.Nodup:=by
    have q:(ps++[y]).Nodup:=by rw[<-S.pre];exact S.nd.sublist (List.take_sublist _ _)
    exact (List.nodup_append.mp q).1
   refine⟨u,rv,?_⟩
   rcases S.par z (List.mem_of_getElem? hp) with k |k
   ·exact .inl ⟨k,bindL_get ndP hp hu k⟩
   ·obtain⟨d,e⟩:=cell_has (n:=s.heap.objs.size+1) k
    refine .inr ⟨.inl k,d,?_,?_⟩
    ·show (cellsFrom (s.heap.objs.size+1) scope.names []++[(y,c)]).lookup z=some d
     rw[List.lookup_append,e];rfl
    ·have q:=x.cell z d e
     rw[bindC_get ndP hp hu (by rw[k];decide)] at q
     exact q
  ·have ei:i=vs.length:=by exact ae3 hi hiv
   subst ei
   rw[List.getElem?_append_right (z0g _)] at ha
   rw[hl,List.getElem?_append_right (z0g _)] at hp
   have ha:vy=v:=by simpa using ha
   have hp:y=z:=by simpa using hp
   subst ha hp
   exact⟨uy,hy,.inr ⟨.inr S.Q0,c,kept,hc.keeps hk⟩⟩
 ·rcases cells z d h with⟨q1,_⟩ |⟨_,q2⟩
  ·exact⟨_,x.cell z d q1⟩
  ·rw[q2];exact⟨_,hc.keeps hk⟩
 ·rcases cells z d h with⟨q1,_⟩ |⟨_,q2⟩
  ·exact e0.hok.fresh (z0e (x.above z d (PySem.mem_of_lookup q1)))
  ·rw[q2];exact hHc
 ·unfold L2.start
  show _=N.length
  rw[z1d,z1g,List.length_replicate,z1d,List.length_singleton]
  exact akq hpl hl
theorem ajf {N ps:List Str} {name qual:Str} {params:Arguments} {body:List Stmt} {scope:Scope} {y:Str} {k n m:Nat} {g:aq->So} {my:Int} {a c:Addr} {H:Hp} {co:Obj} {uy:Value}
  (S:N8 N ps y scope) (hn:ps.length=n) (hm:N.length=n+1+m)
  (hbind:∀(doc pm:Value) (cl:List (Str×Addr)) (cdv ct:Value) (us:List Value),us.length=ps.length->bindArgs (PySem.W.fnX name qual params body scope cl .none .none doc pm none cdv ct) ⟨us,[]⟩=pure (ps.zip us))
  (hb:∀(cdv:Value) (A:Around) (outer:List PySem.Env) (s:Shared) (H:Hp) (f c:Addr),Room k (A.deeper (BP qual scope f cdv s y c))->cX (BR P w K mg base N qual scope f cdv A outer s H y c) body g)
  (fh:m9 H a name qual params body scope [(y,c)]) (hc:H c=some (.frz co (.own c))) (hcd:co.data= .cell (some uy)) (hy:RelV (.int my) uy):
  Ep P w K mg base (k+1) (λ ds=>j7 m g (ds.map .val++[.val (.int my)])) n a H:=by
 intro A outer s H1 us vs Q E hr e0 hz r sp
 obtain⟨O,ds,rs,hl,al,sp⟩:=sp
 have sp:(match j7 m g (ds.map Ent.val++[Ent.val (.int my)]) with | .ok d=>∀v H',Same H1 H'->Rep K O H' d v->Q v H' |_=>False):=sp
 obtain⟨fo,doc,pm,c',ctv,oc,vq,t,f1,f2,f3,f4,f5⟩:=fh.fz hz
 have hc1:=hz _ _ _ hc
 obtain⟨hco,_⟩:=e0.hok c _ hc1
 obtain⟨hfo,_⟩:=e0.hok a _ f1
 obtain⟨hoc,_⟩:=e0.hok c' _ f3
 have KX:K.In s.heap:=e0.mod.kin.keeps λ b o e=>(e0.bs b o e).1
 have lim:s.heap.NoLimit:=e0.mod.nolimit.keeps λ b o e=>(e0.bs b o e).1
 have e1:Env0 P w K mg base A outer s (del H1 c):=⟨e0.frames,e0.mod,λ b o e=>⟨(e0.bs b o e).1,by
  by_cases q:b=c
  ·rw[q];exact lO
  ·rw[dZ q];exact (e0.bs b o e).2⟩,e0.bsz,e0.funs,λ b hb=>by
  by_cases q:b=c
  ·rw[q];exact lO
  ·rw[dZ q];exact e0.frf b hb,ZV e0.hok hc1 hcd,e0.bare⟩
 have hlu:us.length=ps.length:=by rw[<-r.length,<-rs.length,hl,hn]
 have hkind:∀z∈ps.zip us,scope.names.lookup z.1=some .local\/(scope.names.lookup z.1=some .cell/\((cellsFrom (s.heap.objs.size+1) scope.names []).lookup z.1).isSome=true):=λ ⟨q,v⟩ hy=>by
  rcases S.par q (List.of_mem_zip hy).1 with z |z
  ·exact .inl z
  ·exact .inr ⟨z,PySem.W.cellsFrom_some _ _ _ (.inl z)⟩
 refine codeAny_call_function hr.depth hfo f2 S.co S.gen rfl ⟨c',oc,vq,t,rfl,hoc,f4,f5⟩ ?_
 rw[hbind doc pm _ _ _ us hlu]
 refine wpAny_pure (X4 S.kind hkind λ s1 x=>?_)
 refine⟨lim.keeps x.toInCall.keep,codeAny_func ?_⟩
 have I:Inv (BR P w K mg base N qual scope a (.ref c') A outer s (del H1 c) y c) [] (start N (vs++[.int my])) (del H1 c) s1:=
  aje S hr.hd e1 (by rw[<-rs.length,hl,hn]) r ⟨co,hco,hcd⟩ hy lO x
 have IV:N.length=(vs++[V.int my]).length+m:=by rw[hm,z1d,<-rs.length,hl];rfl
 have rs':aY K (λ b=>O b/\b≠c) (del H1 c) ds vs:=aY.ext (ZX hc1) (λ b xs nb Z z=>nb z.1) ds vs rs
 have J:At (BR P w K mg base N qual scope a (.ref c') A outer s (del H1 c) y c) (del H1 c) (λ b=>O b/\b≠c) (λ b=>O b/\b≠c) (del H1 c) ((ds.map Ent.val++[Ent.val (.int my)]).map some++List.replicate m none) (start N (vs++[.int my])):=by
  rw[JF IV]
  refine JD (by show N.length=_;rw[z1d,z1g,rs.length];rw[z1d] at IV;exact IV) (KZ (yJ rs') (.cons ⟨(cO (K:=K) (O:=λ b=>O b/\b≠c) (H:=del H1 c) my:tY K (λ b=>O b/\b≠c) (del H1 c) (.val (.int my)) (.int my)),rfl⟩ .nil)) λ b z=>?_
  obtain⟨o,q⟩:=al b z.1
  exact⟨o,by rw[dZ z.2];exact q⟩
 have run:=hb (.ref c') A outer s (del H1 c) a c (hr.deeper _) [] s1 _ _ {nx:=λ Z H'=>j7 m g (ds.map .val++[.val (.int my)])= .ok .non/\Same (del H1 c) H',rt:=λ v H'=>∃d,j7 m g (ds.map .val++[.val (.int my)])= .ok d/\Same (del H1 c) H'/\Rep K (λ b=>O b/\b≠c) H' d v} I ⟨_,_,_,_,J,by
  unfold j7 at sp |-
  cases e2:g ((ds.map Ent.val++[Ent.val (.int my)]).map some++List.replicate m none) with
  |rt d=>exact λ v H' s' r'=>⟨d,by simp only[e2],s',r'⟩
  |nx ρ'=>exact λ σ' H' O' j' Z=>⟨by simp only[e2],j'.same⟩
  |bk _=>rw[e2] at sp;exact sp.elim
  |ct _=>rw[e2] at sp;exact sp.elim
  |ex _ _=>rw[e2] at sp;exact sp.elim
  |bad=>rw[e2] at sp;exact sp.elim⟩
 have cfr:c∉frs outer:=λ z=>by rw[e0.frf c z] at hc1;injection hc1
 have fin:∀{σ':St} {H':Hp} {v:V} {u:Value} {s':Shared} {d:D},Inv (BR P w K mg base N qual scope a (.ref c') A outer s (del H1 c) y c) [] σ' H' s'->RelV v u->j7 m g (ds.map .val++[.val (.int my)])= .ok d->Same (del H1 c) H'->Rep K (λ b=>O b/\b≠c) H' d v->CE outer P w H1 s Q u s':=λ {σ' H' v u s' d} J rv ed sm rd=>by
  have hn':H' c=none:=J.base.free c co hco lO (by simp[BR])
  have hc':s'.heap.get? c=some co:=J.base.keep c co hco lO cfr (by simp[BR])
  have ol:∀b,b≠c->upd H' c (.frz co (.own c)) b=H' b:=λ b z=>upd_ne z
  have kIn:K.In s'.heap:=J.kIn
  refine⟨v,upd H' c (.frz co (.own c)),J.os,J.bare,⟨λ b o q nb hb hx=>?_,λ b o q nb hb hx=>?_,λ b o q nb hx=>?_,λ b o q hx=>J.base.there b o q hx,λ b xs q=>?_,λ b o u q=>?_,λ b ps q=>?_⟩,ZW J.hok hn' hc',rv,?_⟩
  ·exact J.base.keep b o q (show del H1 c b=none by by_cases z:b=c;(rw[z];exact lO);rw[dZ z];exact nb) hb hx
  ·exact J.base.slot b o q (show del H1 c b=none by by_cases z:b=c;(rw[z];exact lO);rw[dZ z];exact nb) hb hx
  ·have nc:b≠c:=λ z=>by rw[z,hc1] at nb;injection nb
   rw[ol b nc];exact J.base.free b o q (show del H1 c b=none by rw[dZ nc];exact nb) hx
  ·have nc:b≠c:=λ z=>by rw[z,hc1] at q;(injection q with aD;injection aD)
   rw[ol b nc];exact J.base.tups b xs (show del H1 c b=some _ by rw[dZ nc];exact q)
  ·by_cases nc:b=c
   ·rw[nc,hc1] at q;(injection q with aD;injection aD with cZ yE;subst cZ;subst yE);rw[nc,upd_same]
   ·rw[ol b nc];exact J.base.frzs b o u (show del H1 c b=some _ by rw[dZ nc];exact q)
  ·have nc:b≠c:=λ z=>by rw[z,hc1] at q;(injection q with aD;injection aD)
   rw[ol b nc];exact J.base.tbls b ps (show del H1 c b=some _ by rw[dZ nc];exact q)
  ·rw [ed] at sp
   have s2:Same H' (upd H' c (.frz co (.own c))):=Same.upd hn'
   refine sp v _ (λ b o q=>?_) ?_
   ·by_cases nc:b=c
    ·rw[nc,hc1] at q;(injection q with aD;subst aD);rw[nc,upd_same]
    ·exact s2 _ _ (sm b o (by rw[dZ nc];exact q))
   ·refine Rep.ext ⟨λ b xs z=>Same.rd s2 z,λ b xs Z z=>Same.rd s2 z⟩ (λ b xs nb hq z=>?_) d v rd
    by_cases nc:b=c
    ·subst nc
     rcases hq with (hq |⟨o,hq⟩) |⟨o,its,n',hq,h4,_⟩
     ·rw[hn'] at hq;injection hq
     ·rw[hn'] at hq;injection hq
     ·have:=kIn _ _ hq
      rw[hc'] at this;(injection this with aD;subst aD)
      simp_all
    ·exact nb ⟨z,nc⟩
 refine wpAny_mono run (λ fl s' hs=>?_) λ e s' hs=>hs.elim
 cases fl with
 | ret u=>
  obtain⟨v,σ',H',J,rv,d,q1,q2,q3⟩:=hs
  exact fin J rv q1 q2 q3
 | next=>
  obtain⟨σ',H',J,q1,q2⟩:=hs
  exact fin (v:=V.non) (u:=Value.none) J rfl q1 q2 qO
 |brk=>obtain⟨_,_,_,q⟩:=hs;exact False.elim q
 |cont=>obtain⟨_,_,_,q⟩:=hs;exact False.elim q
end
section
variable {X:Cx} {name qual:Str} {params:Arguments} {body:List Stmt} {scope:Scope} {y xS:Str} {c fS:Addr} {Ve:FuncData} {Rg:List Str} {kS kG n q iy:Nat} {FS:Addr->(List D->R D)->List D->R D} {GG:Int->List D->R D} {p pos:Pos} {e:Expr} {es:List Expr} {ta:TA}
inductive agJ (K:PySem.W.Frag) (name qual:Str) (params:Arguments) (body:List Stmt) (scope:Scope) (y:Str) (c:Addr) (iy n:Nat) (FS:Addr->(List D->R D)->List D->R D) (GG:Int->List D->R D) (σ:St) (Q:VK) (vs:List V) (H1:Hp):Prop
 |mk (O:Addr->Prop) (ds:List D) (xs:List V) (a:Addr) (my:Int) (d:D) (e:vs=xs++[.ref a]) (r:aY K O H1 ds xs) (hl:ds.length=n) (al:∀b,O b->∃o,H1 b=some o) (fh:m9 H1 a name qual params body scope [(y,c)]) (hσ:σ[iy]?=some (some (.int my))) (hF:∀a,FS a (GG my) ds= .ok d) (hQ:∀v H',Same H1 H'->Rep K O H' d v->Q v H'):agJ K name qual params body scope y c iy n FS GG σ Q vs H1
noncomputable def alJ (K:PySem.W.Frag) (name qual:Str) (params:Arguments) (body:List Stmt) (scope:Scope) (y:Str) (c:Addr) (iy n:Nat) (FS:Addr->(List D->R D)->List D->R D) (GG:Int->List D->R D) (ta:TA):TE:=λ σ H Q=>ta σ H λ vs H1=>agJ K name qual params body scope y c iy n FS GG σ Q vs H1
theorem afw (Sw:FnOk X.prog X.w X.K X.mg X.base CX0 kS fS Ve Rg (spS X.prog X.w X.mg X.base kG X.K n q FS)) (hr:Room kS X.A) (hg:Gl X xS) (hm:X.mg xS=some (.ref fS)) (hk:PySem.W.keepIn X.K (.ref fS)=true) (hb:Binds X.K Ve Rg [])
  (afx:∀my a c H co uy,m9 H a name qual params body scope [(y,c)]->H c=some (.frz co (.own c))->co.data= .cell (some uy)->RelV (.int my) uy->Ep X.prog X.w X.K X.mg X.base kG (GG my) q a H)
  (hc:X.env.cells.lookup y=some c) (hyk:X.env.scope.names.lookup y=some .cell) (hfn:X.fn y=true) (hiy:X.N[iy]?=some y) (ha:PA X (e::es) ta) (hdb:autoParam ((xS ==("__debug__" :Str))=false) eY._auto_1)
  (he:autoParam (starEach (e::es) X.env=(false,eval e X.env)::starEach es X.env) bD._auto_1) (hpl:autoParam ((backTo pos (starEach es X.env)).any (·.1)=false) bD._auto_1):
  PE X (.Call (.Name xS p) (e::es) [] pos) (alJ X.K name qual params body scope y c iy n FS GG ta):=by
 intro pins s σ H Q I h
 refine wpAny_Call_Name_kw (ld_glob I hg hm ?_ hdb)
 refine PySem.W.callWith_K (h₀:=X.base) I.ok.mod.kin hk (thn (ha pos pins s σ H _ I h) λ us s1 ⟨vs,H1,I1,r,hq⟩=>⟨I1.kIn,?_⟩) he hpl
 obtain⟨O,ds,xs,a,my,d,rfl,rs,hl,al,fh,hσ,hF,hQ⟩:=hq
 obtain⟨m,hn,hl'⟩:=I1.loc
 obtain⟨uy,ry,look⟩:=hl' iy y (.int my) hiy hσ (.inr (.inl hyk))
 have hcell:s1.heap.IsCell c (some uy):=by
  rcases look with⟨z,_⟩ |⟨_,c2,z,hz⟩
  ·have z:X.env.scope.names.lookup y=some .local:=z
   rw[hyk] at z;(injection z with aD;injection aD)
  ·rw[hc] at z;(injection z with aD;subst aD);exact hz
 obtain⟨co,hco,hcd⟩:=hcell
 have hnc:H1 c=none:=I1.freeC y c hc
 have cab:X.s₀.heap.objs.size<=c:=I1.ok.cab y c hfn hc
 have sm:Same H1 (upd H1 c (.frz co (.own c))):=Same.upd hnc
 have nfr:∀b∈frs X.stack,b≠c:=λ b hb z=>by
  rcases List.mem_cons.mp (I1.stkSub b hb) with e |hb'
  ·exact I1.cne y c hc (z.symm.trans e)
  ·obtain⟨_,o,ho,_⟩:=I1.ok.funs.mem hb'
   exact absurd (z0d (z2c ho) cab) (by rw[z];exact Nat.lt_irrefl _)
 have e0:=I1.env0
 have e1:Env0 X.prog X.w X.K X.mg X.base X.A X.stack s1 (upd H1 c (.frz co (.own c))):=⟨e0.frames,e0.mod,λ b o z=>⟨(e0.bs b o z).1,by
  rw[upd_ne (λ w=>by
   have:=z2c (I1.ok.bs b o z).1
   rw[w] at this;exact absurd (z0d this cab) (Nat.lt_irrefl _))]
  exact (e0.bs b o z).2⟩,e0.bsz,e0.funs,λ b hb=>by rw[upd_ne (nfr b hb)];exact e0.frf b hb,ZW e0.hok hnc hco,e0.bare⟩
 obtain⟨fo,doc,pm,c',ctv,oc,vq,t,f1,f2,f3,f4,f5⟩:=id fh
 have fh1:=fh.fz λ b o u z=>sm b _ z
 have sp:spS X.prog X.w X.mg X.base kG X.K n q FS (xs++[.ref a]) (upd H1 c (.frz co (.own c))) (λ v H'=>Same (upd H1 c (.frz co (.own c))) H'/\Rep X.K O H' d v) E0:=by
  refine⟨O,ds,xs,a,GG my,rfl,rs.same sm,hl,λ b z=>let ⟨o,w⟩:=al b z;⟨o,sm _ _ w⟩,⟨rfl,fo,_,sm _ _ f1,f2⟩,afx my a c _ co uy fh1 upd_same hcd ry,?_⟩
  rw[hF a]
  exact λ v H' s' r'=>⟨s',r'⟩
 have hll:us.length=Rg.length:=by rw[<-r.length];exact Sw.len _ _ _ _ sp
 have hbb:=hb s1 us I1.kIn (by rw[List.append_nil];exact hll)
 rw[List.append_nil] at hbb
 refine wpAny_call (codeAny_mono (Sw.run X.A X.stack s1 _ ⟨us,[]⟩ us _ _ E0 hr e1 hbb r sp) λ rr s' hq=>?_)
 cases rr with
 |error ev=>exact hq.elim
 | ok fl =>
  cases fl with
  |next=>exact False.elim hq
  |brk=>exact False.elim hq
  |cont=>exact False.elim hq
  | ret u =>
   obtain⟨v,H',os,bare,un,hok,rv,q1,q2⟩:=hq
   have hc':H' c=some (.frz co (.own c)):=un.frzs c co _ upd_same
   have up:∀b,b≠c->upd H1 c (.frz co (.own c)) b=H1 b:=λ b z=>upd_ne z
   have un':Un (frs X.stack) [] H1 (del H' c) s1.heap s'.heap:=by
    refine⟨λ b o z nb hb hx=>?_,λ b o z nb hb hx=>?_,λ b o z nb hx=>?_,un.there,λ b xs z=>?_,λ b o u z=>?_,λ b ps z=>?_⟩
    ·by_cases bc:b=c
     ·subst bc
      rw[hco] at z;(injection z with aD;subst aD)
      exact (hok b _ hc').1
     ·exact un.keep b o z (by rw[up b bc];exact nb) hb hx
    ·exact un.slot b o z (by rw[up b (nfr b hb)];exact nb) hb hx
    ·by_cases bc:b=c
     ·rw[bc];exact lO
     ·rw[dZ bc];exact un.free b o z (by rw[up b bc];exact nb) hx
    ·have bc:=ne_of_none z hnc
     rw[dZ bc];exact un.tups b xs (by rw[up b bc];exact z)
    ·have bc:=ne_of_none z hnc
     rw[dZ bc];exact un.frzs b o u (by rw[up b bc];exact z)
    ·have bc:=ne_of_none z hnc
     rw[dZ bc];exact un.tbls b ps (by rw[up b bc];exact z)
   have J:Inv X pins σ (del H' c) s':=I1.call' os un' (ZV hok hc' hcd) bare λ b z=>absurd z (by simp)
   refine⟨v,del H' c,J,rv,hQ v _ (λ b o z=>?_) ?_⟩
   ·have bc:=ne_of_none z hnc
    rw[dZ bc];exact q1 b o (by rw[up b bc];exact z)
   ·exact Rep.ext (ZX hc') (λ b xs nb Z z=>nb z) d v q2
end
open Classical in
noncomputable def allOf (f:Addr->R D):R D:=if h:∃d,∀a,f a= .ok d then .ok h.choose else .bad
theorem afy {f:Addr->R D} {d:D} (h:∀a,f a= .ok d):allOf f= .ok d:=by
 have e:∃d,∀a,f a= .ok d:=⟨d,h⟩
 unfold allOf
 rw[dif_pos e]
 have:=e.choose_spec 0
 rw[h 0] at this
 exact this.symm
theorem afz {f:Addr->R D} {d:D} (h:allOf f= .ok d) (a:Addr):f a= .ok d:=by
 unfold allOf at h
 by_cases e:∃d,∀a,f a= .ok d
 ·rw[dif_pos e] at h
  (injection h with aD;subst aD)
  exact e.choose_spec a
 ·rw[dif_neg e] at h;injection h
noncomputable def T8 (i iy:Nat) (f1 f2 f3:aq->R D) (FS:Addr->(List D->R D)->List D->R D) (GG:Int->List D->R D):aq->So:=λ ρ=>match ρ[i]?,ρ[iy]? with
 | some none,some (some (.val (.int my)))=>(match f1 ρ,f2 ρ,f3 ρ with
  | .ok a,.ok b,.ok d=>(match allOf (λ x=>FS x (GG my) [a,b,d]) with
   | .ok r=> .rt r
   |_=> .bad)
  |_,_,_=> .bad)
 |_,_=> .bad
section
variable {X:Cx} {name qual:Str} {params:Arguments} {body:List Stmt} {scope:Scope} {y xS:Str} {c cc P fS:Addr} {Ve:FuncData} {Rg:List Str} {kS kG q:Nat} {FS:Addr->(List D->R D)->List D->R D} {GG:Int->List D->R D} {p p4 pos pos2 ajg:Pos} {e1 e2 e3:Expr} {f1 f2 f3:aq->R D}
theorem In.am7 {O:Addr->Prop} {H:Hp} {ρ:aq} {σ:St} {i:Nat} {v:V} (j:In X O H ρ σ) (hn:ρ[i]?=some none):In X O H ρ (σ.set i (some v)):=by
 have ne:∀(k:Nat) e,ρ[k]?=some (some e)->i≠k:=λ k e h z=>by rw[<-z,hn] at h;(injection h with aD;injection aD)
 refine⟨⟨λ k e h=>?_,λ k l e e' u hkl hk hl ok ol sk sl=>?_⟩,j.al,by rw[List.length_set];exact j.len,j.pA⟩
 ·obtain⟨v',q1,q2⟩:=j.env.get k e h
  exact⟨v',by rw[z1e (ne k e h)];exact q1,q2⟩
 ·rw[z1e (ne k e hk)] at sk
  rw[z1e (ne l e' hl)] at sl
  exact j.env.sep k l e e' u hkl hk hl ok ol sk sl
theorem adC {X:Cx} {H0 H:Hp} {O0 O:Addr->Prop} {E:Ends} {ρ:aq} {i iy:Nat} {f1 f2 f3:aq->R D} {FS:Addr->(List D->R D)->List D->R D} {GG:Int->List D->R D} (h:tK X H0 O0 O H E (T8 i iy f1 f2 f3 FS GG ρ)):∃my d1 d2 d3,ρ[i]?=some none/\ρ[iy]?=some (some (.val (.int my)))/\f1 ρ= .ok d1/\f2 ρ= .ok d2/\f3 ρ= .ok d3/\tK X H0 O0 O H E (match allOf (λ x=>FS x (GG my) [d1,d2,d3]) with | .ok r=> .rt r |_=> .bad):=by
 unfold T8 at h
 rcases q1:ρ[i]? with _ |_ |_ <;> rw[q1] at h
 ·exact h.elim
 ·rcases q2:ρ[iy]? with _ |_ |((_ |_ |my |_ |_ |_) |_ |_ |_) <;> rw[q2] at h
  ·exact h.elim
  ·exact h.elim
  ·exact h.elim
  ·exact h.elim
  ·rcases e1:f1 ρ with _ |d1 |_ <;> rw[e1] at h
   ·exact h.elim
   ·rcases e2:f2 ρ with _ |d2 |_ <;> rw[e2] at h
    ·exact h.elim
    ·rcases e3:f3 ρ with _ |d3 |_ <;> rw[e3] at h
     ·exact h.elim
     ·exact⟨my,d1,d2,d3,rfl,rfl,rfl,rfl,rfl,h⟩
     ·exact h.elim
    ·exact h.elim
   ·exact h.elim
  all_goals exact h.elim
 ·exact h.elim
theorem afA (i iy:Nat) (hN:X.N.Nodup) (hB:sV X.base X.mg cc P) (hT:Tb [(P,qual)] X.H₀) (hcode:X.env.code= .ref cc) (Sw:FnOk X.prog X.w X.K X.mg X.base CX0 kS fS Ve Rg (spS X.prog X.w X.mg X.base kG X.K 3 q FS)) (hr:Room kS X.A) (hm:X.mg xS=some (.ref fS)) (hk:PySem.W.keepIn X.K (.ref fS)=true) (hb:Binds X.K Ve Rg [])
  (afx:∀my a c H co uy,m9 H a name qual params body scope [(y,c)]->H c=some (.frz co (.own c))->co.data= .cell (some uy)->RelV (.int my) uy->Ep X.prog X.w X.K X.mg X.base kG (GG my) q a H)
  (h1:DE X e1 f1) (h2:DE X e2 f2) (h3:DE X e3 f3)
  (hcl:closureFor scope X.env=pure [(y,c)]) (hc:X.env.cells.lookup y=some c) (hyk:X.env.scope.names.lookup y=some .cell) (hfn:X.fn y=true) (hii:i≠iy) (hnv:Vis X.env.scope name)
  (hiy:autoParam (X.N[iy]?=some y) bD._auto_1) (hi:autoParam (X.N[i]?=some name) bD._auto_1) (hl:autoParam (Loc X.env.scope name) vC._auto_1) (hq:autoParam (qualnameIn X.env name name=qual) bD._auto_1) (hd0:autoParam (params.defaults=[]) bD._auto_1) (hk0:autoParam (params.kw_defaults=[]) bD._auto_1) (ha:autoParam (annTrees params none X.env=[]) bD._auto_1)
  (hg:autoParam (Gl X xS) bD._auto_1) (hdb:autoParam ((xS ==("__debug__" :Str))=false) eY._auto_1) (hdn:autoParam ((name ==("__debug__" :Str))=false) eY._auto_1) (hdc:autoParam ((name ==("__classdict__" :Str))=false) eY._auto_1)
  (he1:autoParam (starEach [e1,e2,e3,.Name name p4] X.env=(false,eval e1 X.env)::starEach [e2,e3,.Name name p4] X.env) bD._auto_1) (he2:autoParam (starEach [e2,e3,.Name name p4] X.env=(false,eval e2 X.env)::starEach [e3,.Name name p4] X.env) bD._auto_1)
  (he3:autoParam (starEach [e3,.Name name p4] X.env=(false,eval e3 X.env)::starEach [.Name name p4] X.env) bD._auto_1) (he4:autoParam (starEach [.Name name p4] X.env=(false,eval (.Name name p4) X.env)::starEach [] X.env) bD._auto_1)
  (hpl:autoParam ((backTo pos2 (starEach [e2,e3,.Name name p4] X.env)).any (·.1)=false) bD._auto_1) (hf:autoParam (X.fn name=true\/X.env.scope.names.lookup name=some .local) vD._auto_1):
  cX X [.FunctionDef name params body [] none [] scope none name pos,.Return (some (.Call (.Name xS p) [e1,e2,e3,.Name name p4] [] pos2)) ajg] (T8 i iy f1 f2 f3 FS GG):=by
 have A:=pa_cons h1 (pa_cons h2 (pa_cons h3 (pa_cons (pe_var (X:=X) (pos:=p4) hi hnv hdn hdc) pa_nil he4) he3) he2) he1
 refine PSs.imp (pss_cons (ajd i hN hB hT hcode hcl hi hl hq hd0 hk0 ha hf) (pss_one (ps_ret (afw (iy:=iy) (p:=p) (pos:=pos2) Sw hr hg hm hk hb afx hc hyk hfn hiy A hdb he1 hpl)))) λ σ H E h=>?_
 refine bc λ zQ=>?_
 obtain⟨H0,O0,O,ρ,j,h⟩:=h
 apply zQ;clear zQ
 intro a H1 sm fh
 obtain⟨my,d1,d2,d3,en,em,q1,q2,q3,h⟩:=adC h
 ·skip
  have hil:i < X.N.length:=(z1b hi).1
  refine bc λ zQ=>?_
  obtain⟨v,hv,rv⟩:=j.inn.env.get iy _ em
  apply zQ;clear zQ
  have rv:v= .int my:=Rep.int (show Rep X.K O H (.int my) v from rv)
  subst rv
  ·skip
   refine bc λ zQ=>?_
   cases q4:allOf (λ x=>FS x (GG my) [d1,d2,d3]) with
   |bad=>rw[q4] at h;exact h.elim
   |err _=>rw[q4] at h;exact h.elim
   | ok d=>
    apply zQ;clear zQ
    rw[q4] at h
    have jn:In X O H1 ρ (σ.set i (some (.ref a))):=In.am7 (j.inn.same sm) en
    refine⟨ρ,O,jn,?_⟩
    rw[q1]
    intro v1 H2 s2 r1
    refine⟨ρ,O,jn.same s2,?_⟩
    rw[q2]
    intro v2 H3 s3 r2
    refine⟨ρ,O,(jn.same s2).same s3,?_⟩
    rw[q3]
    intro v3 H4 s4 r3
    have jl:i < σ.length:=by rw[j.inn.len];exact hil
    refine⟨.ref a,z2a jl,?_⟩
    have s14:Same H1 H4:=(s2.trans s3).trans s4
    refine⟨O,[d1,d2,d3],[v1,v2,v3],a,my,d,rfl,.cons (r1.same (s3.trans s4)) (.cons (r2.same s4) (.cons r3 .nil)),rfl,(jn.same s14).al,fh.fz λ b o u z=>s14 _ _ z,?_,afz q4,λ v' H' s' r'=>?_⟩
    ·rw[z1e hii];exact hv
    ·exact h v' H' (j.same.trans (sm.trans (s14.trans s'))) (r'.fewer j.sub)
end
noncomputable def pI (a:Addr) (o:Option HO) (T:Addr) (q:Str):Hp:=λ b=>if b=T then some (.tbl #[.str q 0]) else if b=a then o else none
theorem adD {P:Program} {w:World} {K:PySem.W.Frag} {mg mb:Str->Option Value} {k:Nat} {fa a c T:Addr} {q:Str} {fd:FuncData} {x:Str} {sp:Sp} {s₁:Shared} {vs:List Value} {ns:List Int}
  (KX:K.In s₁.heap) (hns:s₁.heap.Ns mainGlobals mg) (hb:s₁.heap.Ns builtinsNs mb) (hbb:∀x:Str,x≠"__name__"->mb x=bootBuiltins x) (hlim:s₁.heap.NoLimit) (hg:s₁.gens= #[])
  (ha:s₁.heap.get? a=some {cls:= .type "list",data:= .seq vs.toArray}) (hi:IntsAre vs ns) (hl:ns.length<=sizeLine) (hr:Room k callerA)
  (hC:PySem.W.CodeHd s₁.heap c T) (hT:s₁.heap.get? T=some (PySem.W.tabObj #[])) (hnt:PySem.W.noTabs K=true)
  (hbm:∃bm ob,mg "__builtins__" =some (.ref bm)/\bm≠builtinsNs/\s₁.heap.get? bm=some ob/\ob.cls= .type "module"/\ob.dict=some builtinsNs/\ob.data= .plain)
  (F:∀base:Heap,K.In base->base.Ns mainGlobals mg->sV base mg c T->FnOk P w K mg base CX0 k fa fd [x] sp) (hbind:∀(s:Shared) (u:Value),BindsTo s fd ⟨[u],[]⟩ [(x,u)])
  (hsp:∀H:Hp,Tb [(T,q)] H->SqL K H a (ns.map V.int)->sp [.ref a] H (λ v Z=>v= .bl true) λ Z Z Z=>False):
  codeAny (model P w) callerA (.call (.ref fa) ⟨[.ref a],[]⟩) (λ r s'=>r= .ok (.ret (.bool true))/\OldK s₁.heap s'.heap/\s'.os=s₁.os/\AllBare s'.gens) s₁:=by
 have rv:=vals_ints hi
 have lenV:=hi.length
 have aT:a≠T:=λ z=>by rw[z,hT] at ha;(injection ha with aD;injection aD with cZ yE zc3 zc4;injection cZ)
 have core : ∀o:Option HO,(o=none\/o=some (.frz {cls:= .type "list",data:= .seq vs.toArray} (.lst (ns.map V.int))))->SqL K (pI a o T q) a (ns.map V.int)->(o≠none->K.lookup a=none)->
   codeAny (model P w) callerA (.call (.ref fa) ⟨[.ref a],[]⟩) (λ r s'=>r= .ok (.ret (.bool true))/\OldK s₁.heap s'.heap/\s'.os=s₁.os/\AllBare s'.gens) s₁:=by
  intro o ho hS hK
  have hH:∀b u,pI a o T q b=some u->(b=T/\u= .tbl #[.str q 0])\/(b=a/\u= .frz {cls:= .type "list",data:= .seq vs.toArray} (.lst (ns.map V.int))/\o≠none):=λ b u z=>by
   unfold pI at z
   by_cases h1:b=T
   ·rw[if_pos h1] at z;(injection z with aD;subst aD);exact .inl ⟨h1,rfl⟩
   ·rw[if_neg h1] at z
    by_cases h2:b=a
    ·rw[if_pos h2] at z
     rcases ho with ho |ho
     ·rw[ho] at z;injection z
     ·rw[ho] at z;(injection z with aD;subst aD);exact .inr ⟨h2,rfl,by rw[ho];simp⟩
    ·rw[if_neg h2] at z;injection z
  have hok:HOk P w (pI a o T q) s₁.heap:=λ b u z=>by
   rcases hH b u z with⟨rfl,rfl⟩ |⟨rfl,rfl,_⟩
   ·exact⟨#[],hT,trivial,λ p cv y=>by injection y⟩
   ·exact⟨ha,by rw[z1g];exact hl,vs,_,rv,ha⟩
  have tb:Tb [(T,q)] (pI a o T q):=λ p hp=>by
   have e:p=(T,q):=by simpa using hp
   subst e
   exact⟨#[.str q 0],0,if_pos rfl,rfl⟩
  have base_of:∀{b:Addr} {u:Obj},s₁.heap.get? b=some u->pI a o T q b=none->(hidT s₁.heap (pI a o T q)).get? b=some u:=λ e n=>hidT_get e n
  have free:∀{b:Addr} {u:Obj},s₁.heap.get? b=some u->u.cls≠.type "list"->u.cls≠.none->pI a o T q b=none:=λ {b u} e n1 n2=>by
   cases z:pI a o T q b with
   |none=>rfl
   | some y=>
    rcases hH b y z with⟨rfl,_⟩ |⟨rfl,_,_⟩
    ·rw[hT] at e;(injection e with aD;subst aD);exact absurd rfl n2
    ·rw[ha] at e;(injection e with aD;subst aD);exact absurd rfl n1
  have alK:∀{b:Addr} {u:Obj} {es:Array DictEntry} {ep:Nat},s₁.heap.get? b=some u->u.data= .dict es ep->pI a o T q b=none:=λ {b u es ep} e d=>by
   cases z:pI a o T q b with
   |none=>rfl
   | some y=>
    rcases hH b y z with⟨rfl,_⟩ |⟨rfl,_,_⟩
    ·rw[hT] at e;(injection e with aD;subst aD);injection d
    ·rw[ha] at e;(injection e with aD;subst aD);injection d
  have nsK:∀{b:Addr} {m:Str->Option Value},s₁.heap.Ns b m->(hidT s₁.heap (pI a o T q)).Ns b m:=λ {b m} ⟨u,es,ep,e,d,r⟩=>⟨u,es,ep,base_of e (alK e d),d,r⟩
  have hKb:K.In (hidT s₁.heap (pI a o T q)):=λ b u e=>base_of (KX b u e) (by
   cases z:pI a o T q b with
   |none=>rfl
   | some y=>
    rcases hH b y z with⟨rfl,_⟩ |⟨rfl,_,no⟩
    ·have e1:=KX b u e
     rw[hT] at e1;(injection e1 with aD;subst aD)
     have h2:=List.all_eq_true.mp hnt (b,PySem.W.tabObj #[]) (PySem.W.mem_of_lookupK e)
     exact absurd (show false=true from h2) Bool.false_ne_true
    ·rw[hK no] at e;injection e)
  have hM:Mod K mg (hidT s₁.heap (pI a o T q)):=⟨hKb,nsK hns,⟨mb,nsK hb,hbb⟩,let ⟨mc,h1,h2⟩:=hlim;⟨mc,nsK h1,h2⟩⟩
  have nb:sV (hidT s₁.heap (pI a o T q)) mg c T:=by
   refine⟨?_,?_⟩
   ·obtain⟨oc,v,file,tf,flags,tg,inF,text,tt,e1,e2,r⟩:=hC
    exact⟨oc,v,file,tf,flags,tg,inF,text,tt,base_of e1 (free e1 (by rw[e2];nofun) (by rw[e2];nofun)),e2,r⟩
   ·obtain⟨bm,ob,b1,b2,b3,b4,r⟩:=hbm
    exact⟨bm,ob,b1,b2,base_of b3 (free b3 (by rw[b4];nofun) (by rw[b4];nofun)),b4,r⟩
  have e0:Env0 P w K mg (hidT s₁.heap (pI a o T q)) callerA [] s₁ (pI a o T q):=⟨rfl,hM,λ b o e=>of_hidT e,z0f (hidT_size _ _),trivial,λ b hb=>absurd (show b∈([]:List Addr) from hb) (by simp),hok,.of_eq hg⟩
  refine codeAny_mono ((F _ hKb (nsK hns) nb).run callerA [] s₁ (pI a o T q) ⟨[.ref a],[]⟩ [.ref a] [.ref a] _ _ hr e0 (hbind s₁ (.ref a)) (.cons rfl .nil) (hsp _ tb hS)) λ r s' h=>?_
  cases r with
  |error e=>exact h.elim
  | ok fl =>
   cases fl with
   |next=>exact False.elim h
   |brk=>exact False.elim h
   |cont=>exact False.elim h
   | ret u =>
    obtain⟨v,H',os,bare,un,hok',r',z⟩:=h
    have z:v= .bl true:=z
    subst z
    obtain rfl:u=Value.bool true:=r'
    have each:∀b o,s₁.heap.get? b=some o->s'.heap.get? b=some o\/(b=T/\o=PySem.W.tabObj #[]/\∃qs,s'.heap.get? b=some (PySem.W.tabObj qs)):=λ b ob e=>by
     cases z:pI a o T q b with
     |none=>exact .inl (un.keep b ob e z (by intro y;exact absurd (show b∈([]:List Addr) from y) (by simp)) (by simp))
     | some y=>
      rcases hH b y z with⟨rfl,rfl⟩ |⟨rfl,rfl,_⟩
      ·obtain⟨more,z2⟩:=un.tbls _ _ z
       obtain⟨qs,e2,_⟩:=hok' _ _ z2
       rw[hT] at e;(injection e with aD;subst aD)
       exact .inr ⟨rfl,rfl,qs,e2⟩
      ·have z2:=un.frzs _ _ _ z
       obtain⟨e1,_⟩:=hok _ _ z
       obtain⟨e2,_⟩:=hok' _ _ z2
       rw[e] at e1;(injection e1 with aD;subst aD)
       exact .inl e2
    refine⟨rfl,⟨λ b ob e=>?_,λ b ob e=>?_⟩,os,bare⟩
    ·rcases each b ob e with z |⟨rfl,rfl,qs,z⟩
     ·exact .inl z
     ·exact .inr (.inl ⟨(hC.tab hT).isCodeTable,rfl,#[],qs,rfl,by rw[Array.empty_append];exact z⟩)
    ·rcases each b ob e with z |⟨rfl,rfl,qs,z⟩
     ·exact⟨_,z⟩
     ·exact⟨_,z⟩
 cases hk:K.lookup a with
 | some o=>
  have e:=KX a o hk
  rw[ha] at e
  (injection e with aD;subst aD)
  exact core none (.inl rfl) (.inr ⟨_,vs.toArray,_,hk,rfl,rfl,rfl,by rw[z1c,lenV];exact hl,by simpa using rv⟩) λ z=>absurd rfl z
 |none=>exact core _ (.inr rfl) (.inl (.inr ⟨_,(if_neg aT).trans (if_pos rfl)⟩)) λ Z=>hk
noncomputable def Er (K:PySem.W.Frag) (mg:Str->Option Value) (x:Str) (c:Addr):Prop:=∀f oc od fd osl,mg x=some (.ref f)->K.lookup f=some ⟨oc,od,.func fd,osl⟩->fd.code= .ref c
theorem alL {l:PySem.W.OpenLaw} {n k:Nat} {p:Program} {loose:List Str} {XP:(Str->Option Value)->Heap->Prop} {YP:World->Heap->Prop} {d:DefRec} {K:Params->PySem.W.Frag} {x y q:Str} {FL:List D->R D}
  (hn:l.most=some n) (hn2:n<=sizeLine) (hdf:d.params.defaults=[]) (hr:Room k callerA)
  (hY:∀(w:World) (h:Heap),YP w h->(K w.params).In h) (hnt:∀w:World,PySem.W.noTabs (K w.params)=true) (hrec:∃dy∈recsOf p,dy.name=y)
  (F:∀(w:World) (mg:Str->Option Value) (fa:Addr) (h:Heap),(K w.params).In h->h.Ns mainGlobals mg->mg d.name=some (.ref fa)->
   ∃ fd:FuncData,(∀(s:Shared) (u:Value),BindsTo s fd ⟨[u],[]⟩ [(x,u)])/\
    ∀(base:Heap) (c T:Addr),(K w.params).In base->base.Ns mainGlobals mg->sV base mg c T->Er (K w.params) mg y c->FnOk l.prog w (K w.params) mg base CX0 k fa fd [x] (spT [(T,q)] (K w.params) 1 FL))
  (hL:∀ns:List Int,ns.length<=n->FL [.lst (ns.map D.int)]= .ok (.bl true)):
  PySem.W.WalkO p loose XP YP l.row.toRowW d [] (λ f vs=>PySem.call f vs):=by
 refine Att.attach_call hn hdf λ w s₀ s₁ mg mb fa o pm cd doc a vs ns G Y ho hd hcd hmg hobj hints hlen hg=>?_
 have KX:=hY w _ Y
 refine bc λ zQ=>?_
 obtain⟨fd,hb,hF⟩:=F w mg fa _ KX G.T.g hmg
 obtain⟨dy,hdy,rfl⟩:=hrec
 obtain⟨f',o',fd',c,T,t1,t2,t3,t4,t5,t6⟩:=G.T.tab dy hdy
 apply zQ;clear zQ
 have hci:Er (K w.params) mg dy.name c:=λ f oc od fd2 osl e1 e2=>by
  rw[t1] at e1;(injection e1 with aD;injection aD with cZ;subst cZ)
  have e3:=KX _ _ e2
  rw[t2] at e3;(injection e3 with aD;subst aD)
  cases t3
  exact t4
 exact adD (q:=q) KX G.T.g G.T.b G.T.builtins G.T.nolimit hg hobj hints (z0b hlen hn2) hr (PySem.W.CodeHd.of t5 t6) t6.2 (hnt w) G.T.bmain (λ base h1 h2 h3=>hF base c T h1 h2 h3 hci) hb λ H tb hS=>⟨tb,sp_law hS (hL ns hlen)⟩
section
variable {X:Cx} {e lo hi:Expr} {f g:aq->R D} {fl fu:aq->R (Option Int)} {pos p2 p3 p4:Pos}
noncomputable def ahh (d:D) (lo hi:Option Int):R D:=match d with
 | .lst ds=> .ok (.lst (kJ ds lo hi))
 |_=> .bad
noncomputable def mJ (f:aq->R D) (fl fu:aq->R (Option Int)):aq->R D:=λ ρ=>(f ρ).bind λ d=>(fl ρ).bind λ l=>(fu ρ).bind λ u=>ahh d l u
theorem Es {lo hi:Option Expr} (he:DE X e f) (hl:ZM X lo fl) (hu:ZM X hi fu):DE X (.Subscript e (.Slice lo hi none p2) pos) (mJ f fl fu):=by
 refine PE.imp (pe_slice sl_list he hl hu) λ σ H Q h=>?_
 obtain⟨ρ,O,j,h⟩:=h
 refine go j h λ d v H1 e1 s1 r1 j1 h1=>?_
 refine go j1 h1 λ l l' H2 e2 s2 r2 j2 h2=>?_
 refine go j2 h2 λ u u' H3 e3 s3 r3 j3 h3=>?_
 have r2:l=l':=r2
 have r3:u=u':=r3
 subst r2 r3
 cases d with
 | lst ds=>
  have r1':=(r1.same s2).same s3
  obtain⟨a,xs,rfl,hq,hn,rs⟩:=r1'.lst
  have hlen:=rs.length
  refine⟨a,xs,rfl,hq,λ p hp=>?_⟩
  refine h3 _ _ (Same.upd hp) (Rep.nM hp (j3.vZ hp) ?_)
  unfold kJ cutV
  rw[hlen]
  exact (rs.drop _).take _
 |_=>exact h3.elim
theorem ahi {kk} {te:TE} (he:PE X e te):PE X (.Subscript e (.Slice none none (some (.UnaryOp .USub (.Constant (.int 1) kk p3) p4)) p2) pos) (λ σ H Q=>te σ H λ x H1=>∃a xs,x= .ref a/\SqL X.K H1 a xs/\∀p,H1 p=none->Q (.ref p) (upd H1 p (.lst xs.reverse))):=by
 intro pins s σ H Q I h
 refine Subscript_ (thn (he pins s σ H _ I h) λ v s1 bW=>?_)
 refine bc λ zQ=>?_
 obtain⟨x,H1,I1,r1,q1⟩:=bW
 obtain⟨a,xs,rfl,hq,q⟩:=q1
 apply zQ;clear zQ
 obtain rfl:=r1
 refine wpAny_Slice ?_
 rw[evalPart_none,evalPart_some]
 refine wpAny_pure (wpAny_pure ?_)
 refine thn (pe_un (X:=X) un_neg pe_int pins s1 σ H1 (λ y H2=>y= .int (-1)/\H2=H1) I1 ⟨1,rfl,rfl,rfl⟩) λ vs s2 bW=>?_
 refine bc λ zQ=>?_
 obtain⟨y,H2,I2,r2,ey,eH⟩:=bW
 apply zQ;clear zQ
 subst ey
 subst eH
 refine bc λ zQ=>?_
 obtain⟨t,rfl⟩:=r2
 have I4:Inv X pins σ H2 {s2 with heap:=s2.heap.push {cls:= .type "slice",data:= .fields #[.none,.none,.int (-1) t]}}:=I2.kept (t':=s2.toks) λ b ob q=>z1a _ q
 obtain⟨its,rv,ht,hz⟩:=I4.list hq
 apply zQ;clear zQ
 have hlen:=rv.length
 show wpAny (model X.prog X.w) X.A (subscriptTail e (.Slice none none (some (.UnaryOp .USub (.Constant (.int 1) kk p3) p4)) p2) (.ref a) (.ref s2.heap.objs.size)) (EP X pins σ Q) X.xe {s2 with heap:=s2.heap.push {cls:= .type "slice",data:= .fields #[.none,.none,.int (-1) t]}}
 refine tail_any (ops:=[.ref a,.ref s2.heap.objs.size]) ht.isList.typeIs slot_list_getitem.lookup (wpAny_getItem_list_slice ht.isList (Heap.IsSliceOf.new ..) .none .none (.int (-1) t) (by simp) ?_ (by rw[z1c];exact QZ hlen hz)) (by with_unfolding_all rfl)
 rw[PySem.W.krv_pick]
 refine⟨.ref _,_,I4.laid (t':=s2.toks) (o:= .lst xs.reverse) (λ b ob q=>z1a _ q) (z0g _) ?_,rfl,q _ (I4.hok.fresh (z0g _))⟩
 exact⟨by rw[List.length_reverse];exact hz,its.reverse,0,Vals.rev rv,(by have e:its.toArray.toList.reverse=its.reverse:=(by simp);rw[e];exact z1f _ rfl)⟩
noncomputable def alM:D->R D
 | .lst ds=> .ok (.lst ds.reverse)
 |_=> .bad
noncomputable def T9 (f:aq->R D):aq->R D:=λ ρ=>(f ρ).bind alM
theorem ahj {kk} (he:DE X e f):DE X (.Subscript e (.Slice none none (some (.UnaryOp .USub (.Constant (.int 1) kk p3) p4)) p2) pos) (T9 f):=by
 refine PE.imp (ahi he) λ σ H Q h=>?_
 obtain⟨ρ,O,j,h⟩:=h
 refine go j h λ d v H1 e1 s1 r1 j1 h1=>?_
 cases d with
 | lst ds=>
  obtain⟨a,xs,rfl,hq,hn,rs⟩:=r1.lst
  exact⟨a,xs,rfl,hq,λ p hp=>h1 _ _ (Same.upd hp) (Rep.nM hp (j1.vZ hp) rs.reverse)⟩
 |_=>exact h1.elim
noncomputable def ixO (i:Nat) (f:aq->R D):aq->R D:=λ ρ=>match ρ[i]? with
 |some (some (.lst ds))=>(f ρ).bind λ d=>cI (.lst ds) d
 |_=> .bad
theorem ajh (i:Nat) {x:Str} {px:Pos} (hb:DE X e f) (hs:autoParam (PlainIx e) aiI._auto_1) (hN:autoParam (X.N[i]?=some x) bD._auto_1) (hv:autoParam (Vis X.env.scope x) Zt._auto_1)
  (hd:autoParam ((x ==("__debug__" :Str))=false) eY._auto_1) (hcd:autoParam ((x ==("__classdict__" :Str))=false) eY._auto_1):DE X (.Subscript (.Name x px) e pos) (ixO i f):=by
 refine PE.imp (pe_ix ix_seq (pe_var hN hv hd hcd) hb hs) λ σ H Q h=>?_
 obtain⟨ρ,O,j,h⟩:=h
 unfold ixO at h
 rcases q:ρ[i]? with _ |_ |(_ |ds |_ |_) <;> rw[q] at h
 ·exact h.elim
 ·exact h.elim
 ·exact h.elim
 ·dsimp only at h
  obtain⟨v,hv1,a,xs,rfl,hO,hH,rs⟩:=j.env.get i _ q
  refine⟨.ref a,hv1,?_⟩
  refine go j h λ d y H1 e1 s1 r1 j1 h1=>?_
  cases d with
  | int k=>
   have h':good X (rD X) O (match L2.atI ds k with |some d=>R.ok d |none=>R.bad) σ H1 Q:=h1
   cases e2:L2.atI ds k with
   |none=>rw[e2] at h';exact h'.elim
   | some d=>
    rw[e2] at h'
    obtain⟨v,e3,rv⟩:=(rs.same s1).atI e2
    exact .inl ⟨a,xs,k,v,rfl,r1.int,SqL.of (s1 _ _ hH),e3,fin h' rv⟩
  |_=>exact h1.elim
 ·exact h.elim
 ·exact h.elim
end
section
variable {X:Cx} {pos:Pos}
noncomputable def Oa (i k:Nat):aq->So:=λ ρ=>match ρ[i]?,ρ[k]? with
 |some (some (.lst ds)),some (some (.lst es))=>if ds.length < 1000000 then .nx ((ρ.set i (some (.lst (ds++[.lst es])))).set k (some (.val (.lst es)))) else .bad
 |_,_=> .bad
theorem At.give {H0 H:Hp} {O0 O:Addr->Prop} {ρ:aq} {σ:St} (j:At X H0 O0 O H ρ σ) {k:Nat} {es:List D} {b:Addr} (hk:ρ[k]?=some (some (.lst es))) (hb:σ[k]?=some (some (.ref b))):
  At X H0 O0 (λ a=>O a/\a≠b) H (ρ.set k (some (.val (.lst es)))) σ/\iK X.K O H (λ a=>O a/\a≠b) H:=by
 refine bc λ zQ=>?_
 obtain⟨hH0,hO0⟩:=j.mine k _ b hk rfl hb
 have rc:iK X.K O H (λ a=>O a/\a≠b) H:=⟨⟨λ Z Z z=>z,λ Z Z Z z=>z⟩,λ a z=> .inl z.1,λ Z z=>z⟩
 have hkl:k < ρ.length:=(z1b hk).1
 obtain⟨v,hv,b',xs,e1,hO,hH,rs⟩:=j.inn.env.get k _ hk
 apply zQ;clear zQ
 rw[hb] at hv;(injection hv with aD;injection aD with cZ;subst cZ);(injection e1 with aD;subst aD)
 refine⟨⟨j.same,j.iW.trans rc,λ a z=>⟨j.sub a z,λ e=>hO0 (e▸z)⟩,⟨⟨λ m e q=>?_,λ m l e e' u hml hm hl om ol sm sl=>?_⟩,λ a z=>j.inn.al a z.1,j.inn.len,by rw[List.length_set];exact j.inn.pA⟩,λ m e a q ho hs=>?_⟩,rc⟩
 ·by_cases hmk:m=k
  ·subst hmk
   rw[z2a hkl] at q;(injection q with aD;injection aD with cZ;subst cZ)
   exact⟨_,hb,vO (SqL.of hH) (λ z=>z.2 rfl) (rs.go rc)⟩
  ·rw[z1e (Ne.symm hmk)] at q
   refine bc λ zQ=>?_
   obtain⟨v,q1,q2⟩:=j.inn.env.get m e q
   apply zQ;clear zQ
   refine⟨v,q1,?_⟩
   have nb:e.own=true->v≠.ref b:=λ oe z=>by subst z;exact j.inn.env.sep m k _ _ _ hmk q hk oe rfl q1 hb
   refine bc λ zQ=>?_
   cases e with
   |val d=>apply zQ;clear zQ;exact Rep.go rc q2
   |obj t=>apply zQ;clear zQ;exact q2
   | lst ds=>
    apply zQ;clear zQ
    refine bc λ zQ=>?_
    obtain⟨a,ys,e2,o2,h2,r2⟩:=q2
    apply zQ;clear zQ
    exact⟨a,ys,e2,⟨o2,λ z=>nb rfl (by rw[e2,z])⟩,h2,r2.go rc⟩
   | DY kvs=>
    apply zQ;clear zQ
    refine bc λ zQ=>?_
    obtain⟨a,ys,e2,o2,h2,kk,r2⟩:=q2
    apply zQ;clear zQ
    exact⟨a,ys,e2,⟨o2,λ z=>nb rfl (by rw[e2,z])⟩,h2,kk,r2.go rc⟩
 ·have un:∀{m:Nat} {x:Ent},(ρ.set k (some (.val (.lst es))))[m]?=some (some x)->x.own=true->ρ[m]?=some (some x):=λ {m x} h ho=>by
   by_cases hmk:m=k
   ·subst hmk;rw[z2a hkl] at h;(injection h with aD;injection aD with cZ;subst cZ);injection ho
   ·rw[z1e (Ne.symm hmk)] at h;exact h
  exact j.inn.env.sep m l e e' u hml (un hm om) (un hl ol) om ol sm sl
 ·by_cases hmk:m=k
  ·subst hmk;rw[z2a hkl] at q;(injection q with aD;injection aD with cZ;subst cZ);injection ho
  ·rw[z1e (Ne.symm hmk)] at q;exact j.mine m e a q ho hs
theorem afB {X:Cx} {H0 H:Hp} {O0 O:Addr->Prop} {E:Ends} {ρ:aq} {i k:Nat} (h:tK X H0 O0 O H E (Oa i k ρ)):∃ds es,ρ[i]?=some (some (.lst ds))/\ρ[k]?=some (some (.lst es))/\tK X H0 O0 O H E (if ds.length < 1000000 then .nx ((ρ.set i (some (.lst (ds++[.lst es])))).set k (some (.val (.lst es)))) else .bad):=by
 unfold Oa at h
 rcases q1:ρ[i]? with _ |_ |(_ |ds |_ |_) <;> rw[q1] at h
 ·exact h.elim
 ·exact h.elim
 ·exact h.elim
 ·rcases q2:ρ[k]? with _ |_ |(_ |es |_ |_) <;> rw[q2] at h
  ·exact h.elim
  ·exact h.elim
  ·exact h.elim
  ·exact⟨ds,es,rfl,rfl,h⟩
  ·exact h.elim
  ·exact h.elim
 ·exact h.elim
 ·exact h.elim
theorem ahk (i k:Nat) {x y:Str} {px py apos cpos:Pos} (hik:i≠k) (hN:autoParam (X.N[i]?=some x) bD._auto_1) (hNk:autoParam (X.N[k]?=some y) bD._auto_1) (hv:autoParam (Vis X.env.scope x) Zt._auto_1) (hvk:autoParam (Vis X.env.scope y) Zt._auto_1)
  (hd:autoParam ((x ==("__debug__" :Str))=false) eY._auto_1) (hcd:autoParam ((x ==("__classdict__" :Str))=false) eY._auto_1) (hdk:autoParam ((y ==("__debug__" :Str))=false) eY._auto_1) (am8:autoParam ((y ==("__classdict__" :Str))=false) eY._auto_1)
  (hbase:autoParam (attributeBase (.Name x px) "append" X.env (eval (.Name x px) X.env)=eval (.Name x px) X.env) bD._auto_1)
  (hfew:((backTo cpos (starEach [.Name y py] X.env)).all (λ x=> !x.1) && (backToKw cpos (keywordEach [] X.env)).all (λ x=>x.1.isSome)
   && decide ([Expr.Name y py].length+([]:List Keyword).length+(if ([]:List Keyword).isEmpty then 0 else 1) < 30))=true:=by rfl)
  (hline:autoParam ((apos.endLine ==cpos.line)=true) bD._auto_1) (hs1:autoParam (starEach [.Name y py] X.env=(false,eval (.Name y py) X.env)::starEach [] X.env) bD._auto_1) (hplain:autoParam ((backTo cpos (starEach [] X.env)).any (·.1)=false) bD._auto_1)
  (hs:autoParam (swapsWith (.Call (.Attribute (.Name x px) "append" apos) [.Name y py] [] cpos) none pos.line X.env=pure false) bD._auto_1):
  DS X (.Expr (.Call (.Attribute (.Name x px) "append" apos) [.Name y py] [] cpos) pos) (Oa i k):=by
 refine PS.imp (ps_expr (pe_bm PySem.F.plainAttrs_list PySem.F.slot_list_append PySem.F.type_list_append mt_append (pe_var hN hv hd hcd) (pa_cons (pe_var hNk hvk hdk am8) pa_nil hs1) hbase hfew hline hs1 hplain) hs) λ σ H E h=>?_
 refine bc λ zQ=>?_
 obtain⟨H0,O0,O,ρ,j,h⟩:=h
 apply zQ;clear zQ
 obtain⟨ds,es,q1,q2,h⟩:=afB h
 ·skip
  by_cases hl:ds.length < 1000000
  ·rw[if_pos hl] at h
   refine bc λ zQ=>?_
   obtain⟨v,hv1,a,xs,rfl,hO,hH,rs⟩:=j.inn.env.get i _ q1
   obtain⟨v,hv2,b,ys,rfl,hO2,hH2,Ed⟩:=j.inn.env.get k _ q2
   apply zQ;clear zQ
   have hab:a≠b:=λ z=>j.inn.env.sep i k _ _ _ hik q1 q2 rfl rfl hv1 (by rw[z];exact hv2)
   refine⟨.ref a,hv1,.inl ⟨rfl,xs,SqL.of hH⟩,.ref b,hv2,?_⟩
   have hlen:=rs.length
   refine⟨a,xs,.ref b,rfl,rfl,hH,by have:=j5;exact aiu this hl hlen,?_⟩
   refine bc λ zQ=>?_
   obtain⟨j1,r1⟩:=j.give q2 hv2
   apply zQ;clear zQ
   have q1':(ρ.set k (some (.val (.lst es))))[i]?=some (some (.lst ds)):=by rw[z1e (Ne.symm hik)];exact q1
   refine bc λ zQ=>?_
   obtain⟨j2,r2⟩:=j1.chg (o:= .lst (xs++[.ref b])) (en:= .lst (ds++[.lst es])) q1' rfl hv1 ⟨hO,hab⟩ hH trivial rfl λ r=>⟨a,xs++[.ref b],rfl,⟨hO,hab⟩,upd_same,by
    have z1:aY X.K (λ c=>O c/\c≠b) H (ds++[.lst es]) (xs++[.ref b]):=(rs.go r1).append (.cons (vO (SqL.of hH2) (λ z=>z.2 rfl) (Ed.go r1)) .nil)
    exact z1.go r⟩
   apply zQ;clear zQ
   rw[List.set_comm _ _ (Ne.symm hik)] at j2
   exact h _ _ _ j2 (r1.trans r2)
  ·rw[if_neg hl] at h;exact h.elim
end
section
open PySem
theorem aaT (l b:Addr) (items:Array Value) (n:Nat) (items2:Array Value) (n2:Nat) (dd:Option Addr) (sl:Array (Option Value)) (hs0:¬(!items.isEmpty && Builtin.List.listTooLong (items.size+items2.size))=true) (hs1:items.size<=sizeLine) (hs2:items.size+items2.size<=sizeLine+1):
  Meets (Builtin.«list.__iadd__» ⟨[.ref l,.ref b],[]⟩) (λ Z R s=>s.heap.get? l=some {cls:= .type "list",dict:=none,data:= .seq items n,slots:= #[]}/\s.heap.get? b=some {cls:= .type "list",dict:=dd,data:= .seq items2 n2,slots:=sl}/\R (.ok (.ret (Value.ref l))) {s with heap:=s.heap.update l (Obj.mapSeq λ x=>x++items2),toks:=s.toks}):=
 .of_wp λ prog w A R s h=>by
  obtain⟨hp,g,d,tk,os⟩:=s;obtain⟨hl,hb,h⟩:=h;have f1:=AutoSeq1.idx_int;have f2:=AutoSeq1.sub_tuple_tuple;have f3:=AutoSeq1.sub_list_list;have f4:=AutoSeq1.sub_tuple_list;have f5:=AutoSeq1.sub_list_tuple;
  have hz':(items++items2).size<=sizeLine+1:=by rw[Array.size_append];exact hs2
  wp_walk using (wpAny_updateSeq hl rfl (hz:=hs1) (_hz':=hz')),wpAny_loadPart' hl,wpAny_loadPart' hb;exact⟨_,rfl,h⟩
end
section
variable {X:Cx} {e:Expr} {f:aq->R D} {pos:Pos}
theorem ahl:PIp X .Add (λ x y H Q=>∃a b xs ys,x= .ref a/\y= .ref b/\H a=some (.lst xs)/\SqL X.K H b ys/\xs.length+ys.length<=1000000/\Q (.ref a) (upd H a (.lst (xs++ys)))):=by
 intro pins s σ H x y v u Q I rx ry h
 refine bc λ zQ=>?_
 obtain⟨a,b,xs,ys,rfl,rfl,ha,hb,hz,q⟩:=h
 apply zQ;clear zQ
 obtain rfl:=rx
 obtain rfl:=ry
 refine bc λ zQ=>?_
 obtain⟨its,n,r,ho,hzl⟩:=I.lst ha
 obtain⟨its2,r2,p2,hz2⟩:=I.list hb
 obtain⟨⟨cls2,dd2,data2,sl2⟩,ho2,hc2,n2,hd2⟩:=id p2.isList
 apply zQ;clear zQ
 simp only at hc2 hd2
 subst hc2 hd2
 have l1:=r.length
 have l2:=r2.length
 have hsl:=j5
 have hT:s.TypeIs (.ref a) "list" :=⟨_,ho,rfl⟩
 have hT2:s.TypeIs (.ref b) "list" :=⟨_,ho2,rfl⟩
 unfold inplaceOp
 refine wpAny_holding ?_
 have hfi:fillsInplaceSlot (.type "list") "add" (Operator.Add == .Add)=pure false:=by
  unfold fillsInplaceSlot
  show (typeLookup (.type "list") (dunderI "add") >>=λ fi=>pure (fi.isSome && !isSeqSlot fi))=pure false
  rw[PySem.F.slot_list_iadd.lookup,pure_bind,show isSeqSlot (some (.builtin "list.__iadd__"))=true from by decide +kernel];rfl
 refine wpAny_bind (wpAny_typeOf hT (wpAny_bind (wpAny_of_eq hfi ?_)))
 show wpAny _ _ (if false=true then _ else _) _ _ s
 rw[if_neg Bool.false_ne_true]
 refine wpAny_bind (binaryOp1_none (nm:= "add") hT hT2 PySem.noFill_list_add ?_)
 refine wpAny_bind (wpAny_of_eq (PySem.seqSlot_of (T:= "list") (name:=dunderI "add") (id:= "list.__iadd__") PySem.F.slot_list_iadd.lookup (by decide +kernel)) ?_)
 refine wpAny_bind (wpAny_rule ?_)
 refine call_meets PySem.F.slot_list_iadd hT PySem.F.entry_list_iadd (PySem.F.args_list_iadd_2 _ _) (aaT a b its.toArray n its2.toArray n2 dd2 sl2 ?_ (by rw[z1c];exact QZ l1 hzl) (by rw[z1c,z1c];exact akr hsl hz l1 l2)) ⟨ho,ho2,?_⟩
 ·rw[z1c,z1c]
  have:Builtin.List.listTooLong (its.length+its2.length)=false:=by unfold Builtin.List.listTooLong;exact decide_eq_false (by exact aks hsl hz l1 l2)
  rw[this];simp
 ·refine⟨.ref a,upd H a (.lst (xs++ys)),I.lset (its':=its++its2) ha ho (by simp) (r.append r2) (by rw[z1d];exact akt hsl hz),rfl,q⟩
noncomputable def JG (i:Nat) (f:aq->R D):aq->So:=λ ρ=>match ρ[i]? with
 | some (some (.lst ds))=>qM (Q5 (f ρ)) ρ λ d=>match d with
  | .lst es=>if ds.length+es.length<=1000000 then .nx (ρ.set i (some (.lst (ds++es)))) else .bad
  |_=> .bad
 |_=> .bad
theorem Z4 (i:Nat) {x:Str} {pos':Pos} (hN:X.N.Nodup) (he:DE X e f) (hi:autoParam (X.N[i]?=some x) bD._auto_1) (hx:autoParam (Loc X.env.scope x) vC._auto_1)
  (hf:autoParam (X.fn x=true\/X.env.scope.names.lookup x=some .local) vD._auto_1):DS X (.AugAssign (.Name x pos') .Add e pos) (JG i f):=by
 refine PS.imp (ps_aug hN hi hx he ahl hf) λ σ H E h=>?_
 refine bc λ zQ=>?_
 obtain⟨H0,O0,O,ρ,j,h⟩:=h
 apply zQ;clear zQ
 unfold JG at h
 rcases q:ρ[i]? with _ |_ |(_ |ds |_ |_) <;> rw[q] at h
 ·exact h.elim
 ·exact h.elim
 ·exact h.elim
 ·dsimp only at h
  refine bc λ zQ=>?_
  obtain⟨v,hv1,a,xs,rfl,hO,hH,rs⟩:=j.inn.env.get i _ q
  apply zQ;clear zQ
  refine⟨.ref a,hv1,ρ,O,j.inn,?_⟩
  unfold qM at h
  cases e1:f ρ with
  |bad=>rw[e1] at h;exact h.elim
  |err c=>rw[e1] at h;exact h.elim
  | ok d =>
   rw[e1] at h
   intro w H1 s1 rw1
   refine bc λ zQ=>?_
   cases d with
   | lst es=>
    apply zQ;clear zQ
    have h:tK X H0 O0 O H E (if ds.length+es.length<=1000000 then .nx (ρ.set i (some (.lst (ds++es)))) else .bad):=h
    by_cases hl:ds.length+es.length<=1000000
    ·rw[if_pos hl] at h
     have j1:=j.grow s1
     refine bc λ zQ=>?_
     obtain⟨b,ys,rfl,hb,hnb,Ed⟩:=rw1.lst
     apply zQ;clear zQ
     have rs1:=rs.same s1
     have hH1:=s1 _ _ hH
     refine⟨a,b,xs,ys,rfl,rfl,hH1,hb,by rw[<-rs1.length,<-Ed.length];exact hl,?_⟩
     obtain⟨j2,r2⟩:=j1.chg (o:= .lst (xs++ys)) (en:= .lst (ds++es)) q rfl hv1 hO hH1 trivial rfl λ r=>⟨a,xs++ys,rfl,hO,upd_same,(rs1.append Ed).go r⟩
     have eσ:σ.set i (some (V.ref a))=σ:=by
      apply List.ext_getElem?
      intro m
      by_cases hm:m=i
      ·subst hm;rw[z2a (z1b hv1).1,hv1]
      ·rw[z1e (Ne.symm hm)]
     rw[eσ]
     exact h _ _ _ j2 ((Same.iW s1).trans r2)
    ·rw[if_neg hl] at h;exact h.elim
   |_=>exact h.elim
 ·exact h.elim
 ·exact h.elim
end
noncomputable def Its (lo:Int) (n:Nat) (c:Int):It:=⟨λ i Z=>i < n,λ i H x H'=>H'=H/\x= .int (lo+i*c),λ i Z=>n<=i⟩
theorem adE {P:Program} {w:World} {K:PySem.W.Frag} {tg:Expr} (it:Addr) (lo:Int) (n:Nat) (c:Int):Turn P w K tg (Its lo n c) [it] it (λ i h=>IsRangeIter h it (lo+(i:Nat)*c) ((n:Int) - (i:Nat)) c) where
 mem:=by simp
 obj :=λ i h st b hb=>by
  have e:b=it:=by simpa using hb
  subst e
  exact⟨_,st,λ v z=>by
   have z':Data.fields _=Data.cell v:=z
   injection z'⟩
 keep:=λ i h h' st k=>k it (by simp) _ st
 item:=by
  intro X hP hw hK hc i pins s σ H E I hf st hg
  subst hP hw hK
  refine bc λ zQ=>?_
  obtain⟨f0,f1,f2,f3,f4,f5⟩:=hf it (by simp)
  apply zQ;clear zQ
  have W:=Walks.range (prog:=X.prog) (w:=X.w) (I.ok.hd hc) it lo c n
  refine W.item i s _ _ hg st λ v h' tk hv st' kk=>?_
  refine bc λ zQ=>?_
  obtain⟨t,rfl⟩:=hv
  apply zQ;clear zQ
  have I1:Inv X pins σ H {s with heap:=h',toks:=tk}:=I.turned (λ b o hb e=>kk b o (by simpa using hb) e) f0 f1 f3 f4 f5
  exact⟨_,rfl,go_of (s:={s with heap:=h',toks:=tk}) (n:= "range_iterator") st' rfl rfl (by decide) ⟨.int (lo+i*c),H,I1,⟨t,rfl⟩,⟨rfl,rfl⟩,st',λ b hb=>(hf b hb).1⟩⟩
 done:=by
  intro X hP hw hK hc i pins s σ H E I hf st hg
  subst hP hw hK
  refine bc λ zQ=>?_
  obtain⟨f0,f1,f2,f3,f4,f5⟩:=hf it (by simp)
  apply zQ;clear zQ
  exact wpAny_pyNext_range_end (I.ok.hd hc) st (by have:n<=i:=hg;exact oq2 this) λ h' eb=>⟨rfl,I.turned (t':=s.toks) (λ b o hb e=>eb b o hb e) f0 f1 f3 f4 f5⟩
 self:=λ Z Z Z Z Z st h=>wpAny_pyIter_rangeiter st h
noncomputable def Am (hi:Int) (n:Nat):List D:=(List.range n).map λ (i:Nat)=>D.int (hi - (i:Int))
theorem YR.step {K:PySem.W.Frag} {O:Addr->Prop} {H:Hp} (hi:Int) (n:Nat):YR K O H (Its hi n (-1)) (Am hi n):=by
 intro O' H' Z
 intro i
 refine⟨λ d e=>?_,λ e=>?_⟩
 ·unfold Am at e
  rw[z2b] at e
  cases q:(List.range n)[i]? with
  |none=>rw[q] at e;injection e
  | some k=>
   rw[q] at e
   have hk:i < n/\i=k:=by simpa[List.getElem?_range] using (z1b q)
   obtain⟨h1,rfl⟩:=hk
   (injection e with aD;subst aD)
   refine⟨h1,λ x H2 y=>?_⟩
   obtain⟨rfl,rfl⟩:=y
   exact⟨Same.refl _,by rw[show hi+(i:Int)*(-1)=hi - (i:Int) by omega];exact cO _⟩
 ·show n<=i
  unfold Am at e
  simpa using e
section
variable {X:Cx} {tg a b c:Expr} {p pos p2 pos2:Pos} {fa:aq->R (List D)} {ta:TA}
noncomputable def anc:List D->R (List D)
 |[.int i,.int j,.int k]=>if k= -1/\-(2 ^ 62)<=i/\i < 2 ^ 62/\-(2 ^ 62)<=j/\j < 2 ^ 62 then .ok (Am i (i - j).toNat) else .bad
 |_=> .bad
end
section
variable {prog:Program} {w:World} {A:Around} {E:Value->Shared->Prop} {s:Shared}
theorem K4 (r:Addr) (j:Int) (t u v:Tok) (h0:0<=j) (h1:j<=1000):Meets (Builtin.«range.__reversed__» ⟨[.ref r],[]⟩) (λ Z R s=>IsRange s.heap r 0 j 1 t u v/\R (.ok (.ret (.ref s.heap.objs.size))) {s with heap:=s.heap.push {cls:= .type "range_iterator",data:= .fields #[rawInt (j - 1),rawInt j,rawInt (-1)]}}):=
 .of_wp λ prog w A R s h=>by
  obtain⟨hp,g,d,tk,os⟩:=s
  obtain⟨hr,h⟩:=h
  have e1:Builtin.Range.rangeSize 0 j 1=j:=by rw[rangeSize_one];split <;> (first |exact aku |exact akv h0 (by assumption))
  have e2:(Builtin.Range.rangeFitsLong 0 && Builtin.Range.rangeFitsLong j && Builtin.Range.rangeFitsLong 1 && Builtin.Range.rangeFitsLong (-1) && Builtin.Range.rangeFitsLong (0 - 1) && Builtin.Range.rangeFitsLong j)=true:=by
   simp only[Builtin.Range.rangeFitsLong,Bool.and_eq_true,decide_eq_true_eq];exact aly h0 h1
  have e3:(0:Int)+(j - 1)*1=j - 1:=by exact akx
  unfold Builtin.«range.__reversed__» Builtin.Range.rangeFields
  wp_walk using wpAny_loadPart' hr
  rw[e1]
  simp only[e2,e3,Bool.not_true,Bool.false_eq_true,if_false,if_true]
  unfold newFields
  refine wpAny_bind (wpAny_newObj_type (wpAny_pure ⟨_,rfl,h⟩) (by size_fits))
theorem K5:isSubtype (.type "range_iterator") (.type "reversed")=pure false:=by rw[isSubtype_type];kernel_rfl
theorem Oc {r:Addr} {j:Int} {t u v:Tok} {Q₁:Value->Shared->Prop} (h0:0<=j) (h1:j<=1000) (hr:IsRange s.heap r 0 j 1 t u v)
  (h:Q₁ (.ref s.heap.objs.size) {s with heap:=s.heap.push {cls:= .type "range_iterator",data:= .fields #[rawInt (j - 1),rawInt j,rawInt (-1)]}}):
  codeAny (model prog w) A (.call (.builtin "reversed.__new__") ⟨[.type "reversed",.ref r],[]⟩) (wants Q₁ E) s:=by
 have hT:s.TypeIs (.ref r) "range" :=⟨_,hr,rfl⟩
 refine codeAny_of_tree ?_
 show wpAny _ A.in1 (do checkBuiltinCall "reversed.__new__" ⟨[.type "reversed",.ref r],[]⟩;again (.builtin "reversed.__new__" ⟨[.type "reversed",.ref r],[]⟩)) _ _ s
 refine wpAny_bind (wpAny_of_eq (PySem.F.newCall_reversed_1 _) (wpAny_pure ⟨plainId_quiet PySem.F.plain_reversed_new _,codeAny_builtin PySem.F.entry_reversed_new ?_⟩))
 rw[Around.under_plainId PySem.F.plain_reversed_new _]
 unfold Builtin.«reversed.__new__»
 refine wpAny_bind (wpAny_of_eq (newClass_reversed _) ?_)
 try dsimp only
 refine wpAny_bind (wpAny_of_eq (a:=()) (by first |rfl |kernel_rfl) ?_)
 refine wpAny_bind (wpAny_of_eq (a:=()) (by first |rfl |kernel_rfl) ?_)
 try dsimp only
 refine wpAny_bind (wpAny_specialOf hT PySem.F.slot_range_reversed.lookup ?_)
 try dsimp only
 refine wpAny_bind (wpAny_of_eq (PySem.F.slot_range_reversed.bind _) ?_)
 try dsimp only
 first
 |rw [if_neg (show ¬((Value.builtin "range.__reversed__" ==Value.none)=true) from Bool.false_ne_true)]
 |(show wpAny _ _ (if (Value.builtin "range.__reversed__" ==Value.none)=true then _ else _) _ _ _;rw[if_neg (show ¬((Value.builtin "range.__reversed__" ==Value.none)=true) from Bool.false_ne_true)])
 refine wpAny_bind (wpAny_rule ?_)
 refine wpAny_bind (m:=runValue (.call (.builtin "range.__reversed__") ⟨[.ref r],[]⟩)) (show wpAny _ _ (call (.builtin "range.__reversed__") [.ref r]) _ _ _ from call_meets PySem.F.slot_range_reversed hT PySem.F.entry_range_reversed (PySem.F.args_range_reversed_1 _) (K4 r j t u v h0 h1) ⟨hr,?_⟩)
 first
 |exact wpAny_pure h
 |exact wpAny_bind (wpAny_pure (wpAny_pure h))
theorem Od {r:Addr} {j:Int} {t u v:Tok} {Q:Value->Shared->Prop} (h0:0<=j) (h1:j<=1000) (hr:IsRange s.heap r 0 j 1 t u v)
  (h:Q (.ref s.heap.objs.size) {s with heap:=s.heap.push {cls:= .type "range_iterator",data:= .fields #[rawInt (j - 1),rawInt j,rawInt (-1)]}}):wpAny (model prog w) A (call (.type "reversed") [.ref r]) Q E s:=by
 refine callType_other (U:= "range_iterator") (Q₁:=λ obj s₁=>obj= .ref s.heap.objs.size/\s₁={s with heap:=s.heap.push {cls:= .type "range_iterator",data:= .fields #[rawInt (j - 1),rawInt j,rawInt (-1)]}}) (by decide +kernel) PySem.F.create_reversed ⟨_,_,PySem.F.mro_reversed⟩ PySem.F.made_reversed K5 (PySem.F.typeCall_reversed_1 _) (Oc h0 h1 hr ⟨rfl,rfl⟩) ?_
 rintro obj s₁ ⟨rfl,rfl⟩
 exact⟨⟨_,z1f _ rfl,rfl⟩,h⟩
end
section
variable {X:Cx} {tg a:Expr} {p pos p2 pos2:Pos} {fa:aq->R (List D)}
noncomputable def Vf:List D->R (List D):=aaE λ j=>if 0<=j/\j<=1000 then .ok (Am (j - 1) j.toNat) else .bad
theorem anj (j:Int):Vf [.int j]=(if 0<=j/\j<=1000 then .ok (Am (j - 1) j.toNat) else .bad):=rfl
theorem ahm (hg:Gl X "reversed") (hm:X.mg "reversed" =none) (hg2:Gl X "range") (hm2:X.mg "range" =none) (ha:DA X [a] fa) (hs:autoParam (starEach [a] X.env=[(false,eval a X.env)]) bD._auto_1)
  (he:autoParam (starEach [.Call (.Name "range" p2) [a] [] pos2] X.env=(false,eval (.Call (.Name "range" p2) [a] [] pos2) X.env)::starEach [] X.env) bD._auto_1) (hpl:autoParam ((backTo pos (starEach [] X.env)).any (·.1)=false) bD._auto_1):
  DI X tg (.Call (.Name "reversed" p) [.Call (.Name "range" p2) [a] [] pos2] [] pos) (λ ρ=>(fa ρ).bind Vf):=by
 intro pins s σ H R I h
 have A:=pa_cons (ai7 (p:=p2) (pos:=pos2) hg2 hm2 ha hs) pa_nil he
 refine bc λ zQ=>?_
 obtain⟨ρ,O,jn,h⟩:=h
 apply zQ;clear zQ
 have key:tCons (ai6 X.K (tG X (Iz X) fa)) tNil σ H (λ vs H1=>∃q j,vs=[.ref q]/\H1 q=some (.rng 0 j)/\0<=j/\j<=1000/\R (Its (j - 1) j.toNat (-1)) H1):=by
  refine go jn h λ ds vs H1 e1 s1 r1 j1 h1=>?_
  replace h1:=Nt h1
  refine bc λ zQ=>?_
  obtain⟨j,rfl,h1⟩:=h1
  apply zQ;clear zQ
  ·skip
   by_cases hh:0<=j/\j<=1000
   ·rw[if_pos hh] at h1
    refine bc λ zQ=>?_
    obtain⟨v,rfl,w⟩:=r1.one
    apply zQ;clear zQ
    exact⟨j,by rw[w.int],hh.1,hh.2,λ q hq=>⟨q,j,rfl,upd_same,hh.1,hh.2,h1 _ _ (Same.upd hq) (YR.step _ _)⟩⟩
   ·rw[if_neg hh] at h1;exact h1.elim
 refine Call_ (ld_blt I hg hm boot_reversed (PyProof.Rows.callWith_type1 (thn (A pos pins s σ H _ I key) λ us s1 ⟨vs,H1,I1,r1,q1⟩=>?_) he hpl))
 refine bc λ zQ=>?_
 obtain⟨q,j,e,hq,h0,h1,q⟩:=q1
 apply zQ;clear zQ
 subst e
 cases r1 with
 | cons r rr=>
  cases rr
  obtain rfl:=r
  refine bc λ zQ=>?_
  obtain⟨t,u,v,hr⟩:=I1.hok _ _ hq
  apply zQ;clear zQ
  refine Od h0 h1 hr ?_
  have hit:IsRangeIter (s1.heap.push {cls:= .type "range_iterator",data:= .fields #[rawInt (j - 1),rawInt j,rawInt (-1)]}) s1.heap.objs.size (j - 1) j (-1):=z1f _ rfl
  refine wpAny_pyIter_rangeiter (s:={s1 with heap:=s1.heap.push {cls:= .type "range_iterator",data:= .fields #[rawInt (j - 1),rawInt j,rawInt (-1)]}}) hit ?_
  refine⟨s1.heap.objs.size,[s1.heap.objs.size],_,_,H1,rfl,I1.kept (t':=s1.toks) λ b o e=>z1a _ e,adE _ (j - 1) j.toNat (-1),?_,λ b hb=>?_,q⟩
  ·show IsRangeIter _ _ (j - 1+((0:Nat):Int)*(-1)) (((j.toNat:Nat):Int) - ((0:Nat):Int)) (-1)
   rw[show j - 1+((0:Nat):Int)*(-1)=j - 1 by simp,show ((j.toNat:Nat):Int) - ((0:Nat):Int)=j by exact aky h0]
   exact hit
  ·have e:b=s1.heap.objs.size:=by simpa using hb
   subst e
   exact I1.fpOk (z0g _) (I1.hok.fresh (z0g _))
end
end Pu
namespace Pu
open PySem PySem.Spec PySem.W L2
open PyProof.Rows hiding St
noncomputable def fG:List Int->List Int->Bool
 |[],[]=>false
 |[],_::_=>true
 |_::_,[]=>false
 |x::xs,y::ys=>if x=y then fG xs ys else decide (x < y)
theorem Ij (x y:Int) (xs ys:List Int):fG (x::xs) (y::ys)=if x=y then fG xs ys else decide (x < y):=rfl
theorem pJ:∀a:List Int,fG a a=false
 |[]=>rfl
 |x::xs=>by rw[Ij,if_pos rfl];exact pJ xs
theorem ni:∀{a b c:List Int},fG a b=true->fG b c=true->fG a c=true
 |[],[],_,h,_=>by injection h
 |[],_::_,[],_,h=>by injection h
 |[],_::_,_::_,_,_=>rfl
 |_::_,[],_,h,_=>by injection h
 |_::_,_::_,[],_,h=>by injection h
 | x ::a,y::b,z::c,h1,h2=>by
  rw[Ij] at h1 h2 |-
  by_cases e1:x=y
  ·rw[if_pos e1] at h1
   subst e1
   by_cases e2:x=z
   ·rw[if_pos e2] at h2 |-;exact ni h1 h2
   ·rw[if_neg e2] at h2 |-;exact h2
  ·rw[if_neg e1] at h1
   have h1:x < y:=of_decide_eq_true h1
   by_cases e2:y=z
   ·subst e2;rw[if_neg e1];exact decide_eq_true h1
   ·rw[if_neg e2] at h2
    have h2:y < z:=of_decide_eq_true h2
    rw[if_neg (by exact akA h1 h2)];exact decide_eq_true (by exact akz h1 h2)
theorem Ao:∀{a b:List Int},a≠b->fG a b=false->fG b a=true
 |[],[],h,_=>absurd rfl h
 |[],_::_,_,h=>by injection h
 |_::_,[],_,_=>rfl
 | x ::a,y::b,h,e=>by
  rw[Ij] at e |-
  by_cases e1:x=y
  ·subst e1
   rw[if_pos rfl] at e |-
   exact Ao (λ z=>h (by rw[z])) e
  ·rw[if_neg e1] at e
   rw[if_neg (λ z=>e1 z.symm)]
   have e:¬x < y:=of_decide_eq_false e
   exact decide_eq_true (by exact akB e e1)
section
variable {prog:Program} {w:World} {A:Around} {E:Value->Shared->Prop} {s:Shared}
theorem X5 {a b:Addr} {oa ob:Obj} {xs ys:Array Value} {na nb:Nat} {ns ms:List Int} {P:PySem.Fin->Shared->Prop} (hoa:s.heap.get? a=some oa) (hda:oa.data= .seq xs na) (hob:s.heap.get? b=some ob) (hcb:ob.cls= .type "tuple") (hdb:ob.data= .seq ys nb)
  (hia:IntsAre xs.toList ns) (hib:IntsAre ys.toList ms) (h:P (.done (.ret (.bool (fG ns ms)))) s):
  wpAny (model prog w) A (Builtin.«tuple.__lt__» ⟨[.ref a,.ref b],[]⟩) P E s:=by
 have hTb:s.TypeIs (.ref b) "tuple" :=⟨ob,hob,hcb⟩
 show wpAny _ _ (isInstance (.ref b) (.type "tuple") >>=_) _ _ s
 refine wpAny_bind (wpAny_isInstance hTb isSubtype_tuple_tuple ?_)
 simp only[Bool.not_true,Bool.false_eq_true,if_false]
 refine wpAny_bind (wpAny_tupleItemsOf hoa hda ?_)
 refine wpAny_bind (wpAny_tupleItemsOf hob hdb ?_)
 refine wpAny_bind ?_
 refine wpAny_forIn_list _
  (λ rest r s'=>r.1=none/\s'=s/\∃xs' ys' ns' ms',rest=List.zip xs' ys'/\IntsAre xs' ns'/\IntsAre ys' ms'/\fG ns' ms'=fG ns ms/\decide (xs'.length < ys'.length)=decide (xs.size < ys.size))
  _ ?_ ?_ _ _ ⟨rfl,rfl,xs.toList,ys.toList,ns,ms,rfl,hia,hib,rfl,by simp⟩
 ·rintro ⟨u,v⟩ rest r s' ⟨hr,rfl,xs',ys',ns',ms',hz,hx',hy',hdec,hlen⟩
  cases hx' with
  |nil=>simp at hz
  | cons k1 t1 hx''=>
   cases hy' with
   |nil=>simp at hz
   | cons k2 t2 hy''=>
    simp only[List.zip_cons_cons,List.cons.injEq,Prod.mk.injEq] at hz
    obtain⟨⟨rfl,rfl⟩,rfl⟩:=hz
    refine wpAny_bind (wpAny_eqBool_int ?_)
    rw[Ij] at hdec
    by_cases hk:k1=k2
    ·subst hk
     rw[if_pos rfl] at hdec
     simp only[beq_self_eq_true,Bool.not_true,Bool.false_eq_true,if_false]
     exact wpAny_pure ⟨rfl,rfl,_,_,_,_,rfl,hx'',hy'',hdec,by simpa using hlen⟩
    ·rw[if_neg hk] at hdec
     have e:(k1 ==k2)=false:=by simpa using hk
     rw[e]
     simp only[Bool.not_false,if_true]
     rw[<-hdec] at h
     refine wpAny_bind (wpAny_rule ?_)
     refine wpAny_bind (m:=richCompare .Lt (.int k1 t1) (.int k2 t2)) (show wpAny _ _ (compareOp .Lt (.int k1 t1) (.int k2 t2)) _ _ _ from lt_int ?_)
     first
      |exact wpAny_pure (wpAny_pure h)
      |exact wpAny_bind (wpAny_pure (wpAny_pure (wpAny_pure h)))
      |exact wpAny_bind (wpAny_pure (wpAny_pure h))
 ·rintro⟨r1,r2⟩ s' ⟨hr,rfl,xs',ys',ns',ms',hz,hx',hy',hdec,hlen⟩
  simp only at hr
  subst hr
  refine wpAny_pure ?_
  have hfin:decide (xs.size < ys.size)=fG ns ms:=by
   rw[<-hdec,<-hlen]
   cases hx' with
   | nil=>
    cases hy' with
    |nil=>rfl
    |cons _ _ _=>rfl
   | cons _ _ _=>
    cases hy' with
    |nil=>rfl
    |cons _ _ _=>simp at hz
  show P (.done (.ret (.bool (decide (xs.size < ys.size))))) s'
  rw[hfin];exact h
theorem Z5 {a b:Addr} {oa ob:Obj} {xs ys:Array Value} {na nb:Nat} {ns ms:List Int} {Q:Value->Shared->Prop} (hu:A.units < cLine) (hoa:s.heap.get? a=some oa) (hca:oa.cls= .type "tuple") (hda:oa.data= .seq xs na) (hob:s.heap.get? b=some ob) (hcb:ob.cls= .type "tuple") (hdb:ob.data= .seq ys nb)
  (hia:IntsAre xs.toList ns) (hib:IntsAre ys.toList ms) (h:Q (.bool (fG ns ms)) s):wpAny (model prog w) A (compareOp .Lt (.ref a) (.ref b)) Q E s:=by
 show wpAny _ _ (richCompare .Lt (.ref a) (.ref b)) _ _ _
 exact wpAny_richCompare_same_room (op:= .Lt) ⟨oa,hoa,hca⟩ ⟨ob,hob,hcb⟩ PySem.F.slot_tuple_lt
   (wpAny_call_entry PySem.F.slot_tuple_lt ⟨oa,hoa,hca⟩ PySem.F.entry_tuple_lt (X5 hoa hda hob hcb hdb hia hib ⟨_,rfl,(λ e=>nomatch e),h⟩) (PySem.F.args_tuple_lt_2 _ _)) hu
end
section
variable {X:Cx}
end
noncomputable def Oe (p:List Int):List (List Int)->List (List Int)
 |[]=>[p]
 |q::r=>if fG p q then p::q::r else q::Oe p r
theorem adF (p q:List Int) (r:List (List Int)):Oe p (q::r)=if fG p q then p::q::r else q::Oe p r:=rfl
noncomputable def mO:List (List Int)->List (List Int)
 |[]=>[]
 |p::r=>Oe p (mO r)
theorem Et (p:List Int):∀l,(Oe p l).Perm (p::l)
 |[]=> .refl _
 | q::r=>by
  rw[adF]
  split
  ·exact .refl _
  ·exact ((Et p r).cons q).trans (List.Perm.swap p q r)
theorem lH:∀l,(mO l).Perm l
 |[]=> .refl _
 |p::r=>(Et p _).trans ((lH r).cons p)
noncomputable abbrev Ik (l:List (List Int)):Prop:=l.Pairwise λ a b=>fG a b=true
theorem Rh (p:List Int):∀{l:List (List Int)},Ik l->p∉l->Ik (Oe p l)
 |[],_,_=>by show Ik [p];simp
 | q ::r,h,hn=>by
  obtain⟨h1,h2⟩:=List.pairwise_cons.mp h
  rw[adF]
  by_cases e:fG p q=true
  ·rw[if_pos e]
   refine List.pairwise_cons.mpr ⟨λ z hz=>?_,h⟩
   rcases List.mem_cons.mp hz with z1 |z1
   ·rw[z1];exact e
   ·exact ni e (h1 z z1)
  ·rw[if_neg e]
   have e2:fG q p=true:=Ao (λ z=>hn (by rw[z];exact List.mem_cons_self)) (by simpa using e)
   refine List.pairwise_cons.mpr ⟨λ z hz=>?_,Rh p h2 λ z=>hn (z2f _ z)⟩
   rcases List.mem_cons.mp ((Et p r).mem_iff.mp hz) with z1 |z1
   ·rw[z1];exact e2
   ·exact h1 z z1
theorem Eu:∀{l:List (List Int)},l.Nodup->Ik (mO l)
 |[],_=> .nil
 | p::r,h=>by
  obtain⟨h1,h2⟩:=List.nodup_cons.mp h
  exact Rh p (Eu h2) λ z=>h1 ((lH r).mem_iff.mp z)
theorem K6:∀{a b:List (List Int)},a.Perm b->Ik a->Ik b->a=b
 |[],b,p,_,_=>(List.nil_perm.mp p).symm
 |x::a,[],p,_,_=>absurd (List.perm_nil.mp p) (by simp)
 | x :: a,y::b,p,ha,hb=>by
  have ha':=List.pairwise_cons.mp ha
  have hb':=List.pairwise_cons.mp hb
  have h1:x=y:=by
   rcases List.mem_cons.mp (p.mem_iff.mp (List.mem_cons_self (a:=x) (l:=a))) with h |h
   ·exact h
   ·rcases List.mem_cons.mp (p.mem_iff.mpr (List.mem_cons_self (a:=y) (l:=b))) with k |k
    ·exact k.symm
    ·have:=ni (ha'.1 y k) (hb'.1 x h)
     rw[pJ] at this;injection this
  subst h1
  rw[K6 ((List.perm_cons x).mp p) ha'.2 hb'.2]
theorem aaU {ts:List (List Int)} (hn:ts.Nodup) {a b:Nat} (ha:a < ts.length) (hb:b < ts.length) (hab:a≠b):ts.getD a []≠ts.getD b []:=by
 simp only[List.getD,List.getElem?_eq_getElem ha,List.getElem?_eq_getElem hb,Option.getD_some]
 intro z
 exact hab ((List.getElem_inj hn).mp z)
theorem ahn {ts:List (List Int)} (hn:ts.Nodup):Ord ts.length (λ i j=>fG (ts.getD i []) (ts.getD j [])):=
 ⟨λ a b c Z Z Z h1 h2=>ni h1 h2,λ a b ha hb hab h=>Ao (aaU hn ha hb hab) h⟩
theorem Vg {ts:List (List Int)} (hn:ts.Nodup) {q:Array Nat} (h:Pm ts.length q) (hs:S (λ i j=>fG (ts.getD i []) (ts.getD j [])) q ts.length):q.toList.map (λ i=>ts.getD i [])=mO ts:=by
 refine K6 ?_ ?_ (Eu hn)
 ·have e:(List.range ts.length).map (λ i=>ts.getD i [])=ts:=by
   apply List.ext_getElem?
   intro i
   by_cases hi:i < ts.length
   ·simp[hi]
   ·simp[hi]
  have:=h.perm.map λ i=>ts.getD i []
  rw[e] at this
  exact this.trans (lH ts).symm
 ·refine List.pairwise_iff_getElem.mpr λ i j hi hj hij=>?_
  have hl:(q.toList.map λ i=>ts.getD i []).length=ts.length:=by simp[h.size]
  have:=hs i j hij (by rw[<-hl];exact hj)
  have e:∀(k:Nat) (hk:k < (q.toList.map λ i=>ts.getD i []).length),(q.toList.map λ i=>ts.getD i [])[k]=ts.getD (q.getD k 0) []:=λ k hk=>by
   have hk':k < q.size:=by simpa using hk
   simp[Array.getD,hk']
  rw[e i hi,e j hj];exact this
section
variable {prog:Program} {w:World} {A:Around} {E:Value->Shared->Prop} {s:Shared}
inductive qm (h:Heap) (a:Addr) (l c:Int) (ps:List Int):Prop
 |mk (o o2:Obj) (n n2:Nat) (t u:Tok) (p:Addr) (vs:Array Value) (h1:h.get? a=some o) (h2:o.cls= .type "tuple") (h3:o.data= .seq #[.int l t,.int c u,.ref p] n) (h4:h.get? p=some o2) (h5:o2.cls= .type "tuple") (h6:o2.data= .seq vs n2) (h7:IntsAre vs.toList ps):qm h a l c ps
theorem qm.keeps {h h':Heap} {a:Addr} {l c:Int} {ps:List Int} (x:qm h a l c ps) (k:∀b o,h.get? b=some o->o.cls= .type "tuple"->h'.get? b=some o):qm h' a l c ps:=
 by
 obtain⟨o,o2,n,n2,t,u,p,vs,h1,h2,h3,h4,h5,h6,h7⟩:=x
 exact⟨o,o2,n,n2,t,u,p,vs,k _ _ h1 h2,h2,h3,k _ _ h4 h5,h5,h6,h7⟩
theorem wM {prog:Program} {w:World}:∀{vs:List Value} {ns:List Int},IntsAre vs ns->ItemsAre (intKind prog w) ns vs
 |_,_,.nil=> .nil
 |_,_,.cons n t h=> .cons (intKind_is _ _ _ _) (wM h)
theorem aho {x y:Addr} {l c l' c':Int} {ps qs:List Int} {Q:Bool->Shared->Prop} (hu:A.units < cLine) (hx:qm s.heap x l c ps) (hy:qm s.heap y l' c' qs) (h:Q (fG (l::c::ps) (l'::c'::qs)) s):
  wpAny (model prog w) A (keyLt' (tuples' true) (.ref x) (.ref y)) Q E s:=by
 obtain⟨o,o2,n,n2,t,u,p,vs,h1,h2,h3,h4,h5,h6,h7⟩:=hx
 obtain⟨o',o2',n',n2',t',u',p',vs',g1,g2,g3,g4,g5,g6,g7⟩:=hy
 refine kat_lt h1 h3 g1 g3 ?_
 show KatLex prog w A true (decide (3 < 3)) Q [(.int l t,.int l' t'),(.int c u,.int c' u'),(.ref p,.ref p')] 0 s
 rw[Ij,Ij] at h
 refine kat_cons (SeqAt.EqAt.int_int l t l' t' prog w _ _ ?_)
 by_cases e1:l=l'
 ·rw [if_pos e1] at h
  rw[show (l ==l')=true by simpa using e1]
  refine kat_yes (kat_cons (SeqAt.EqAt.int_int c u c' u' prog w _ _ ?_))
  by_cases e2:c=c'
  ·rw[if_pos e2] at h
   rw[show (c ==c')=true by simpa using e2]
   refine kat_yes (kat_cons (wpAny_eqBool_tuple (knd:=intKind prog w) hu ⟨o2,vs,n2,h4,h5,h6,wM h7⟩ ⟨o2',vs',n2',g4,g5,g6,wM g7⟩ ?_))
   by_cases e3:ps=qs
   ·rw[e3,pJ] at h
    rw[decide_eq_true e3]
    exact kat_yes (kat_nil (by simpa using h))
   ·rw[decide_eq_false e3]
    refine kat_no ?_
    show wpAny (model prog w) A (oneLt' false _ _) Q _ s
    exact kat_one _ _ (Z5 hu h4 h5 h6 g4 g5 g6 h7 g7 h)
  ·rw[if_neg e2] at h
   rw[show (c ==c')=false by simpa using e2]
   refine kat_no ?_
   show wpAny (model prog w) A (oneLt' false _ _) Q _ s
   exact kat_one _ _ (lt_int h)
 ·rw[if_neg e1] at h
  rw[show (l ==l')=false by simpa using e1]
  refine kat_no ?_
  show wpAny (model prog w) A (keyLt' oneType' (.int l t) (.int l' t')) Q _ s
  exact kat_lt_int h
end
theorem Vh {h:Heap}:∀(as:List Addr),(∀a∈as,∃l c ps,qm h a l c ps)->∃fs,KatTups h (as.map Value.ref) fs/\fs.length=as.length/\∀f∈fs,∃k t,f=Value.int k t
 |[],_=>⟨[],.nil,rfl,λ f hf=>by simp at hf⟩
 | a::as,hx=>by
  obtain⟨l,c,ps,o,o2,n,n2,t,u,p,vs,h1,h2,h3,_⟩:=hx a List.mem_cons_self
  obtain⟨fs,k1,k2,k3⟩:=Vh as λ b hb=>hx b (z2f _ hb)
  refine⟨.int l t::fs,KatTups.cons h1 h2 h3 rfl k1,by simp[k2],λ f hf=>?_⟩
  rcases List.mem_cons.mp hf with z |z
  ·exact⟨l,t,z⟩
  ·exact k3 f z
section
variable {X:Cx}
noncomputable def Ua (K:PySem.W.Frag) (H:Hp) (a:Addr) (ns:List Int):Prop:=∃l c ps p,ns=l::c::ps/\SqT K H a [.int l,.int c,.ref p]/\SqT K H p (ps.map V.int)
theorem ahp {pins:List (Addr×Obj)} {σ:St} {H:Hp} {s:Shared} {a:Addr} {ns:List Int} (I:Inv X pins σ H s) (h:Ua X.K H a ns):∃l c ps,ns=l::c::ps/\qm s.heap a l c ps:=by
 refine bc λ zQ=>?_
 obtain⟨l,c,ps,p,rfl,h1,h2⟩:=h
 obtain⟨its,r1,⟨o,ho,hc,n,hd⟩,_⟩:=I.tuple h1
 obtain⟨its2,r2,⟨o2,ho2,hc2,n2,hd2⟩,_⟩:=I.tuple h2
 apply zQ;clear zQ
 refine⟨l,c,ps,rfl,?_⟩
 cases r1 with
 | cons a1 r1=>
  cases r1 with
  | cons a2 r1=>
   cases r1 with
   | cons a3 r1=>
    cases r1
    refine bc λ zQ=>?_
    obtain⟨t,rfl⟩:=a1
    obtain⟨u,rfl⟩:=a2
    apply zQ;clear zQ
    obtain rfl:=a3
    exact⟨o,o2,n,n2,t,u,p,its2.toArray,ho,hc,hd,ho2,hc2,hd2,by simpa using N6 r2⟩
theorem aaV (hu:X.A.units+2 < cLine):CallR X (.builtin "sorted") (λ xs H Q=>∃(a:Addr) (as:List Addr) (ts:List (List Int)),xs=[.ref a]/\SqL X.K H a (as.map V.ref)/\as.length=ts.length/\ts.length < 64/\ts.Nodup/\(∀(i:Nat) b t,as[i]?=some b->ts[i]?=some t->Ua X.K H b t)/\
  ∀(B:Addr) (bs:List Addr),H B=none->bs.length=ts.length->(∀(i:Nat) b t,bs[i]?=some b->(mO ts)[i]?=some t->b∈as/\∃j:Nat,as[j]?=some b/\ts[j]?=some t)->Q (.ref B) (upd H B (.lst (bs.map V.ref)))):=by
 intro pins s σ H xs us Q I r h
 refine bc λ zQ=>?_
 obtain⟨a,as,ts,rfl,hq,hl,h64,hn,ht,q⟩:=h
 obtain⟨u,rfl,rx⟩:=vals1 r
 apply zQ;clear zQ
 obtain rfl:=rx
 refine bc λ zQ=>?_
 obtain⟨its,rv,pl,hz⟩:=I.list hq
 apply zQ;clear zQ
 have hits:its=as.map Value.ref:=by
  have:∀(as:List Addr) (its:List Value),Vals (as.map V.ref) its->its=as.map Value.ref:=by
   intro as
   induction as with
   |nil=>intro its r;cases r;rfl
   |cons b as ih=>intro its r;cases r with |cons r1 r2=>obtain rfl:=r1;rw[ih _ r2];rfl
  exact this as its rv
 subst hits
 have lenV:(as.map Value.ref).length=ts.length:=by rw[z1g,hl]
 refine Calls.call_function_entry kind_sorted plain_sorted entry_sorted (args_sorted1 _) ?_
 unfold Builtin.«sorted»
 refine wpAny_bind (m:=checkCount "sorted" 1 1 _) (wpAny_pure ?_)
 refine wpAny_bind (collect_list pl.isList ?_)
 refine wpAny_bind (wpAny_newList ?_ (by rw[lenV,sizeLine_eq];exact T4 h64))
 have hsz:((s.heap.push (seqObj "list" #[] 0)).update s.heap.objs.size (Obj.mapSeq (· ++(as.map Value.ref).toArray))).objs.size=s.heap.objs.size+1:=by
  rw[Heap.size_update,size_push']
 have hB:(((s.heap.push (seqObj "list" #[] 0)).update s.heap.objs.size (Obj.mapSeq (· ++(as.map Value.ref).toArray))).push (seqObj "list" (as.map Value.ref).toArray 0)).get? (s.heap.objs.size+1)=some (seqObj "list" (as.map Value.ref).toArray 0):=by
  rw[<-hsz];exact z1f _ rfl
 show wpAny _ _ _ _ _ {s with heap:=((s.heap.push (seqObj "list" #[] 0)).update s.heap.objs.size (Obj.mapSeq (· ++(as.map Value.ref).toArray))).push (seqObj "list" (as.map Value.ref).toArray 0)}
 rw[hsz]
 have kp:∀b o,s.heap.get? b=some o->(((s.heap.push (seqObj "list" #[] 0)).update s.heap.objs.size (Obj.mapSeq (· ++(as.map Value.ref).toArray))).push (seqObj "list" (as.map Value.ref).toArray 0)).get? b=some o:=λ b o e=>by
  refine z1a _ ?_
  rw[Heap.get?_update_ne _ _ _ _ (Nat.ne_of_lt (z2c e))]
  exact z1a _ e
 have Vi:∀(i:Nat) b,as[i]?=some b->∃l c ps,ts.getD i []=l::c::ps/\qm s.heap b l c ps:=λ i b e=>by
  have hi:i < ts.length:=by rw[<-hl];exact (z1b e).1
  refine bc λ zQ=>?_
  obtain⟨l,c,ps,e1,e2⟩:=ahp I (ht i b ts[i] e (by simp[hi]))
  apply zQ;clear zQ
  exact⟨l,c,ps,by simp[hi,e1],e2⟩
 have bne:∀b o,s.heap.get? b=some o->b≠s.heap.objs.size+1:=λ b o e=>Nat.ne_of_lt (Nat.lt_succ_of_lt (z2c e))
 refine wpAny_bind (wpAny_holding (wpAny_call_entry slot_list_sort ⟨_,hB,rfl⟩ entry_list_sort (agY (lt:=λ i j=>fG (ts.getD i []) (ts.getD j [])) (kk:=tuples' true) hB (by rw[lenV];exact h64) (by rw[lenV];exact ahn hn) ?kind ?ask λ qq hq hqs=>⟨_,rfl,?fin⟩) (args_list_sort _)))
 case kind=>
  intro h2 h6 keep Q' hQ'
  refine bc λ zQ=>?_
  obtain⟨fs,kt,fl,fi⟩:=Vh (h:=h6) as λ b hb=>by
   obtain⟨i,hi⟩:=List.mem_iff_getElem?.mp hb
   obtain⟨l,c,ps,_,e⟩:=Vi i b hi
   exact⟨l,c,ps,e.keeps λ d o hd Z=>keep d o (bne d o hd) (kp d o hd)⟩
  apply zQ;clear zQ
  refine kat_kind (T:= .type "int") kt (by rw[fl,hl];rw[lenV] at h2;exact z0e h2) (λ f hf=>by obtain⟨k,t,rfl⟩:=fi f hf;exact .now) rfl hQ'
 case ask=>
  intro h6 keep i j C hi hj hC
  rw[lenV] at hi hj
  have hi':i < as.length:=by exact Ue hi hl
  have hj':j < as.length:=by exact Ue hj hl
  refine bc λ zQ=>?_
  obtain⟨l,c,ps,e1,t1⟩:=Vi i as[i] (by simp[hi'])
  obtain⟨l',c',ps',e2,t2⟩:=Vi j as[j] (by simp[hj'])
  apply zQ;clear zQ
  unfold kas_ask
  rw[show (as.map Value.ref).getD i Value.none= .ref as[i] by simp[hi'],show (as.map Value.ref).getD j Value.none= .ref as[j] by simp[hj']]
  refine aho ?_ (t1.keeps λ d o hd Z=>keep d o (bne d o hd) (kp d o hd)) (t2.keeps λ d o hd Z=>keep d o (bne d o hd) (kp d o hd)) ?_
  ·first |exact z0c (by simp) hu |(show X.A.units+_ < cLine;omega)
  ·rw[e1,e2] at hC;exact hC
 case fin=>
  rw[lenV] at hq hqs
  refine wpAny_pure ⟨_,rfl,?_⟩
  have hout:(qq.toList.map λ i=>(as.map Value.ref).getD i Value.none)=(qq.toList.map λ i=>as.getD i 0).map Value.ref:=by
   rw[List.map_map]
   refine List.map_congr_left λ i hi=>?_
   have hi':i < as.length:=by rw[hl];exact z2e (hq.perm.mem_iff.mp hi)
   simp[hi']
  rw[hout]
  refine bc λ zQ=>?_
  obtain⟨cc,hFB⟩:=sortedHeap_at (vs:=as.map Value.ref) (out:=List.toArray ((qq.toList.map λ i=>as.getD i 0).map Value.ref)) hB
  apply zQ;clear zQ
  have hf:H (s.heap.objs.size+1)=none:=I.hok.fresh (Nat.le_succ _)
  refine⟨.ref (s.heap.objs.size+1),upd H (s.heap.objs.size+1) (.lst ((qq.toList.map λ i=>as.getD i 0).map V.ref)),I.laid (t':=s.toks) (λ b o e=>Ky (bne b o e) (kp b o e)) (Nat.le_succ _) ?_,rfl,q _ _ hf ?_ λ i b t eb et=>?_⟩
  ·refine⟨?_,_,cc,ZG _,hFB⟩
   rw[z1g,z1g,Array.length_toList,hq.size,sizeLine_eq];exact T4 h64
  ·rw[z1g,Array.length_toList,hq.size]
  ·rw[<-Vg hn hq hqs] at et
   rw[z2b] at eb et
   refine bc λ zQ=>?_
   cases ei:qq.toList[i]? with
   |none=>rw[ei] at eb;injection eb
   | some k=>
    apply zQ;clear zQ
    rw[ei] at eb et
    have eb:as.getD k 0=b:=Option.some.inj eb
    have et:ts.getD k []=t:=Option.some.inj et
    have hk:k < ts.length:=z2e (hq.perm.mem_iff.mp (List.mem_of_getElem? ei))
    have hk':k < as.length:=by exact Ue hk hl
    have ea:as[k]?=some b:=by simp[List.getD,hk'] at eb |-;exact eb
    exact⟨List.mem_of_getElem? ea,k,ea,by simp[List.getD,hk] at et |-;exact et⟩
end
end Pu
namespace Pu
open PySem PySem.Spec L2
open PyProof.Rows hiding St
noncomputable def kI:List Int->D
 |l::c::ps=> .tup [.int l,.int c,.tup (ps.map .int)]
 |_=> .non
noncomputable def Ew:D->Option (List Int)
 | .tup [.int l,.int c,.tup ps]=>(intsOf ps).map λ ns=>l::c::ns
 |_=>none
noncomputable def pK:List D->Option (List (List Int))
 |[]=>some []
 | d::ds=>match Ew d,pK ds with
  |some t,some ts=>some (t::ts)
  |_,_=>none
noncomputable def wN:List D->R D:=afb λ ds=>match pK ds with
  |some ts=>if ts.length < 64/\ts.Nodup then .ok (.lst ((mO ts).map kI)) else .bad
  |none=> .bad
theorem Vj (ds:List D):wN [.lst ds]=(match pK ds with
  |some ts=>if ts.length < 64/\ts.Nodup then .ok (.lst ((mO ts).map kI)) else .bad
  |none=> .bad):=rfl
theorem K7 (ns:List Int):intsOf (ns.map D.int)=some ns:=by simpa using Eh (c:=λ i:Int=>i) (l:=ns)
theorem Vk {l c:Int} {ps:List Int}:Ew (kI (l::c::ps))=some (l::c::ps):=by
 show (intsOf (ps.map D.int)).map (λ ns=>l::c::ns)=_
 rw[K7];rfl
section
variable {K:PySem.W.Frag} {O:Addr->Prop} {H:Hp}
theorem wO {t:List Int} {P:Prop} (e:(none:Option (List Int))=some t):P:=by injection e
theorem aaW {d:D} {t:List Int} (e:Ew d=some t):∃l c ps,d= .tup [.int l,.int c,.tup ps]:=by
 cases d with
 | tup ds=>
  rcases ds with _ |⟨a,_ |⟨b,_ |⟨c,_ |⟨_,_⟩⟩⟩⟩
  ·exact wO e
  ·cases a <;> exact wO e
  ·cases a with
   |int l=>cases b <;> exact wO e
   |_=>exact wO e
  ·cases a with
   | int l=>
    cases b with
    | int m=>
     cases c with
     |tup ps=>exact⟨l,m,ps,rfl⟩
     |_=>exact wO e
    |_=>exact wO e
   |_=>exact wO e
  ·cases a with
   | int l=>
    cases b with
    |int m=>cases c <;> exact wO e
    |_=>exact wO e
   |_=>exact wO e
 |_=>exact wO e
theorem afC {d:D} {v:V} {t:List Int} (e:Ew d=some t) (r:Rep K O H d v):∃b,v= .ref b/\Ua K H b t/\Rep K O H (kI t) v:=by
 refine bc λ zQ=>?_
 obtain⟨l,c,ps,rfl⟩:=aaW e
 apply zQ;clear zQ
 replace e:(intsOf ps).map (λ ns=>l::c::ns)=some t:=e
 ·skip
  refine bc λ zQ=>?_
  cases q:intsOf ps with
  |none=>rw[q] at e;injection e
  | some ns=>
   apply zQ;clear zQ
   rw[q] at e;(injection e with aD;subst aD)
   refine bc λ zQ=>?_
   obtain⟨a,xs,rfl,hq,rs⟩:=r.tup
   obtain⟨v1,v2,v3,rfl,r1,r2,r3⟩:=rs.three
   apply zQ;clear zQ
   have r1:=r1.int
   have r2:=r2.int
   subst r1 r2
   refine bc λ zQ=>?_
   obtain⟨p,ys,rfl,hq2,Ed⟩:=r3.tup
   apply zQ;clear zQ
   have e2:=Em q Ed
   subst e2
   refine⟨a,rfl,⟨l,c,ns,p,rfl,hq,hq2⟩,jM hq (.cons (cO l) (.cons (cO c) (.cons (jM hq2 En) .nil)))⟩
set_option tactic.hygienic true in
theorem Ri:∀{ds:List D} {vs:List V} {ts:List (List Int)},pK ds=some ts->aY K O H ds vs->∃as:List Addr,vs=as.map V.ref/\as.length=ts.length/\∀(i:Nat) b t,as[i]?=some b->ts[i]?=some t->Ua K H b t/\Rep K O H (kI t) (.ref b)
 | [],vs,ts,e,r=>by
  (injection e with aD;subst aD)
  exact⟨[],r.nil_inv,rfl,λ i b t h=>by simp at h⟩
 | d ::ds,vs,ts,e,r=>by
  obtain⟨x,r',rfl,h1,h2⟩:=r.cons_inv
  unfold pK at e
  split at e
  ·rename_i t ts' e1 e2
   (injection e with aD;subst aD)
   obtain⟨b,rfl,h3,h4⟩:=afC e1 h1
   obtain⟨as,rfl,h5,h6⟩:=Ri e2 h2
   refine⟨b::as,rfl,by simp[h5],λ i b' t' eb et=>?_⟩
   cases i with
   |zero=>simp at eb et;subst eb et;exact⟨h3,h4⟩
   |succ i=>exact h6 i b' t' (by simpa using eb) (by simpa using et)
  ·injection e
theorem IW:∀{ds:List D} {vs:List V},ds.length=vs.length->(∀(i:Nat) d v,ds[i]?=some d->vs[i]?=some v->Rep K O H d v)->aY K O H ds vs
 |[],[],_,_=> .nil
 |[],_::_,h,_=>by simp at h
 |_::_,[],h,_=>by simp at h
 |d::ds,v::vs,h,p=> .cons (p 0 d v rfl rfl) (IW (by simpa using h) λ i d' v' e1 e2=>p (i+1) d' v' (by simpa using e1) (by simpa using e2))
end
section
variable {X:Cx}
theorem Vl (hu:X.A.units+2 < cLine):CallD X (.builtin "sorted") wN:=by
 refine⟨_,aaV hu,λ ρ O σ H Q xs ds j r h=>?_⟩
 replace h:=Zx h
 refine bc λ zQ=>?_
 obtain⟨es,rfl,h⟩:=h
 apply zQ;clear zQ
 ·skip
  refine bc λ zQ=>?_
  obtain⟨x,rfl,rx⟩:=r.one
  obtain⟨a,ys,rfl,hq,hna,rs⟩:=rx.lst
  apply zQ;clear zQ
  refine bc λ zQ=>?_
  cases e:pK es with
  |none=>rw[e] at h;exact h.elim
  | some ts =>
   apply zQ;clear zQ
   rw[e] at h
   have h:good X (rD X) O (if ts.length < 64/\ts.Nodup then R.ok (.lst ((mO ts).map kI)) else .bad) σ H Q:=h
   by_cases hl:ts.length < 64/\ts.Nodup
   ·rw [if_pos hl] at h
    refine bc λ zQ=>?_
    obtain⟨as,rfl,h1,h2⟩:=Ri e rs
    apply zQ;clear zQ
    refine⟨a,as,ts,rfl,hq,h1,hl.1,hl.2,λ i b t eb et=>(h2 i b t eb et).1,λ B bs hB hbl hp=>?_⟩
    refine h _ _ (Same.upd hB) (Rep.nM hB (j.vZ hB) (IW ?_ λ i d v ed ev=>?_))
    ·rw[z1g,z1g,(lH ts).length_eq,hbl]
    ·rw [z2b] at ed ev
     refine bc λ zQ=>?_
     cases q1:(mO ts)[i]? with
     |none=>rw[q1] at ed;injection ed
     | some t=>
      apply zQ;clear zQ
      refine bc λ zQ=>?_
      cases q2:bs[i]? with
      |none=>rw[q2] at ev;injection ev
      | some b=>
       apply zQ;clear zQ
       rw[q1] at ed;rw[q2] at ev
       (injection ed with aD;subst aD);(injection ev with aD;subst aD)
       refine bc λ zQ=>?_
       obtain⟨_,k,z1,z2⟩:=hp i b t q2 q1
       apply zQ;clear zQ
       exact (h2 k b t z1 z2).2
   ·rw[if_neg hl] at h;exact h.elim
end
section
variable {X:Cx} {e:Expr} {f:aq->R D} {pos:Pos}
theorem Z6 (i k m:Nat) {x y z:Str} {px py pz pt:Pos} {kt} (hc:X.calm=true) (hN:X.N.Nodup) (he:DE X e f) (hi:autoParam (X.N[i]?=some x) bD._auto_1) (hk:autoParam (X.N[k]?=some y) bD._auto_1) (hm:autoParam (X.N[m]?=some z) bD._auto_1)
  (hx:autoParam (Loc X.env.scope x) vC._auto_1) (hy:autoParam (Loc X.env.scope y) vC._auto_1) (hz:autoParam (Loc X.env.scope z) vC._auto_1)
  (hfx:autoParam (X.fn x=true\/X.env.scope.names.lookup x=some .local) vD._auto_1) (Uo:autoParam (X.fn y=true\/X.env.scope.names.lookup y=some .local) vD._auto_1) (hfz:autoParam (X.fn z=true\/X.env.scope.names.lookup z=some .local) vD._auto_1)
  (hs:autoParam (swapsWithSole [.Tuple [.Name x px,.Name y py,.Name z pz] kt pt] e pos.line X.env=pure false) bD._auto_1) (hw:autoParam (swappedStores [.Tuple [.Name x px,.Name y py,.Name z pz] kt pt] e X.env=pure none) bD._auto_1):
  DS X (.Assign [.Tuple [.Name x px,.Name y py,.Name z pz] kt pt] e pos) (bL f (gQ (gR 3 (bO (aK i) (bO (aK k) (bO (aK m) nilG)))))):=by
 refine PS.imp (ps_asg he (pg_tup hc (pgs_cons (pg_name hN hi hx hfx) (pgs_cons (pg_name hN hk hy Uo) (pgs_cons (pg_name hN hm hz hfz) pgs_nil)))) hs hw) λ σ H E h=>?_
 refine bc λ zQ=>?_
 obtain⟨H0,O0,O,ρ,j,h⟩:=h
 apply zQ;clear zQ
 refine⟨ρ,O,j.inn,?_⟩
 unfold bL qM at h
 cases e1:f ρ with
 |bad=>rw[e1] at h;exact h
 |err c=>rw[e1] at h;exact h σ H O j
 | ok d=>
  rw[e1] at h
  intro v H' s r
  refine bc λ zQ=>?_
  cases d with
  | tup ds=>
   apply zQ;clear zQ
   match ds,h,r with
   |[],h,_=>exact h.elim
   |[_],h,_=>exact h.elim
   |[_,_],h,_=>exact h.elim
   |_::_::_::_::_,h,_=>exact (show False by simpa[gQ,gR,tK] using h).elim
   | [d1,d2,d3],h,r=>
    refine bc λ zQ=>?_
    obtain⟨a,xs,rfl,hq,rs⟩:=r.tup
    obtain⟨v1,v2,v3,rfl,r1,r2,r3⟩:=rs.three
    apply zQ;clear zQ
    refine⟨a,[v1,v2,v3],rfl,hq,rfl,v1,[v2,v3],rfl,v2,[v3],rfl,v3,[],rfl,rfl,?_⟩
    exact h _ H' O ((((j.grow s).set (z1b hi).1 r1).set (z1b hk).1 r2).set (z1b hm).1 r3) (Same.iW s)
  |_=>exact h.elim
end
section
variable {X:Cx} {e:Expr} {f:aq->R D}
noncomputable def am9:D->R Bool
 | .lst ds=> .ok (!ds.isEmpty)
 | .tup ds=> .ok (!ds.isEmpty)
 |_=> .bad
noncomputable def Og (f:aq->R D):aq->R Bool:=λ ρ=>(f ρ).bind am9
theorem aY.empty {K:PySem.W.Frag} {O:Addr->Prop} {H:Hp} {ds:List D} {vs:List V} (r:aY K O H ds vs):ds.isEmpty=vs.isEmpty:=by
 have:=r.length
 cases ds <;> cases vs <;> simp_all
theorem Vm (h:DE X e f) (he:autoParam (∀whole,isTrue e X.env whole=(do let v <-whole;standAt e.pos;holding [v] (truthy v))) Zr._auto_1):DT X e (Og f):=by
 refine PT.imp (pt_truth h he) λ σ H Q h=>?_
 obtain⟨ρ,O,j,h⟩:=h
 refine go j h λ d v H1 e1 s1 r1 j1 h1=>?_
 cases d with
 | lst ds=>
  obtain⟨a,xs,rfl,hq,hn,rs⟩:=r1.lst
  exact⟨!xs.isEmpty,.inl ⟨xs,hq,rfl⟩,by rw[<-rs.empty];exact fin h1 rfl⟩
 | tup ds=>
  obtain⟨a,xs,rfl,hq,rs⟩:=r1.tup
  exact⟨!xs.isEmpty,.inr (.inl ⟨xs,hq,rfl⟩),by rw[<-rs.empty];exact fin h1 rfl⟩
 |_=>exact h1.elim
end
theorem Vn {A:Around} {k:Nat} (hr:Room k A):A.units+2 < cLine:=by have:=hr.un;exact akC this
noncomputable def FnS (P:Program) (w:World) (K:PySem.W.Frag) (mg:Str->Option Value) (base:Heap) (k:Nat) (x:Str) (kG n q:Nat) (F:Addr->(List D->R D)->List D->R D):Prop:=
 ∃f fd ps,FnOk P w K mg base CX0 k f fd ps (spS P w mg base kG K n q F)/\mg x=some (.ref f)/\PySem.W.keepIn K (.ref f)=true/\Binds K fd ps []
theorem Ja:∀{xs:List V} {us:List Value},xs.length=us.length->(∀(i:Nat) x u,xs[i]?=some x->us[i]?=some u->RelV x u)->Vals xs us
 |[],[],_,_=> .nil
 |[],_::_,h,_=>by simp at h
 |_::_,[],h,_=>by simp at h
 |x::xs,u::us,h,p=> .cons (p 0 x u rfl rfl) (Ja (by simpa using h) λ i d' v' e1 e2=>p (i+1) d' v' (by simpa using e1) (by simpa using e2))
theorem adG {lo:Int} {acc:Array Value} {n:Nat} (h:ItemsOf (λ i v=>∃t,v= .int (lo+i*1) t) acc n):Vals ((List.range n).map λ (i:Nat)=>V.int (lo+(i:Int))) acc.toList:=by
 refine Ja (by simp[h.1]) λ i x u e1 e2=>?_
 rw[Array.getElem?_toList] at e2
 obtain⟨t,rfl⟩:=h.2 i u e2
 rw[z2b] at e1
 cases q:(List.range n)[i]? with
 |none=>rw[q] at e1;injection e1
 | some k=>
  rw[q] at e1
  have hk:i < n/\i=k:=by simpa[List.getElem?_range] using (z1b q)
  obtain⟨_,rfl⟩:=hk
  (injection e1 with aD;subst aD)
  exact⟨t,by rw[Int.mul_one]⟩
section
variable {X:Cx} {a b:Expr} {p pos p2 pos2:Pos} {fa:aq->R (List D)} {ta:TA}
noncomputable def alN (ta:TA):TE:=λ σ H Q=>ta σ H λ vs H1=>∃i j:Int,vs=[.int i,.int j]/\∀q,H1 q=none->Q (.ref q) (upd H1 q (.rng i j))
theorem ahq (hg:Gl X "range") (hm:X.mg "range" =none) (ha:PA X [a,b] ta) (hs:autoParam (starEach [a,b] X.env=[(false,eval a X.env),(false,eval b X.env)]) bD._auto_1) (hs2:autoParam (starEach [b] X.env=[(false,eval b X.env)]) bD._auto_1):PE X (.Call (.Name "range" p) [a,b] [] pos) (alN ta):=by
 intro pins s σ H Q I h
 refine Call_ (ld_blt I hg hm boot_range (PyProof.Rows.callWith_type1 (thn (ha pos pins s σ H _ I h) λ us s1 ⟨vs,H1,I1,r1,q1⟩=>?_) (by rw[hs,hs2]) (by rw[hs2];rfl)))
 obtain⟨i,j,e,q⟩:=q1
 subst e
 cases r1 with
 | cons r rr=>
  cases rr with
  | cons r' rr=>
   cases rr
   obtain⟨t,rfl⟩:=r
   obtain⟨t',rfl⟩:=r'
   refine call_range_2 ?_
   exact⟨.ref s1.heap.objs.size,upd H1 s1.heap.objs.size (.rng i j),I1.laid (λ b o e=>z1a _ e) (z0g _) ⟨_,_,_,z1f _ rfl⟩,rfl,q _ (I1.hok.fresh (z0g _))⟩
theorem adH (hc:X.calm=true):CallR X (.type "list") (λ xs H Q=>∃(b:Addr) (i j:Int),xs=[.ref b]/\H b=some (.rng i j)/\-1000<=i/\i<=1000/\-1000<=j/\j<=1000/\∀B,H B=none->Q (.ref B) (upd H B (.lst ((List.range (j - i).toNat).map λ (k:Nat)=>V.int (i+(k:Int)))))):=by
 intro pins s σ H xs us Q I r h
 refine bc λ zQ=>?_
 obtain⟨b,i,j,rfl,hb,h0,h1,h2,h3,q⟩:=h
 obtain⟨u,rfl,rx⟩:=vals1 r
 apply zQ;clear zQ
 obtain rfl:=rx
 refine bc λ zQ=>?_
 obtain⟨t,u,v,hr⟩:=(show ObjOk X.prog X.w H s.heap b (.rng i j) from I.hok b _ hb)
 apply zQ;clear zQ
 have hn:Builtin.Range.rangeSize i j 1=(((j - i).toNat:Nat):Int):=by rw[rangeSize_one];split <;> (first |exact akD (by assumption) |exact akE (by assumption))
 refine call_list_range (I.ok.hd hc) hr (small_one (by exact agE h0) (by exact agF h1) (by exact agE h2) (by exact agF h3)) hn (by exact alz h0 h3) λ h' tk acc c' hk he hacc=>?_
 have hf:H s.heap.objs.size=none:=I.hok.fresh (z0g _)
 refine⟨.ref s.heap.objs.size,_,I.laid (t':=tk) (o:= .lst ((List.range (j - i).toNat).map λ (k:Nat)=>V.int (i+(k:Int)))) hk (z0g _) ⟨?_,acc.toList,c',adG hacc,by simpa using he⟩,rfl,q _ hf⟩
 rw[z1g,z2d]
 exact z0b (by exact akF h0 h3) (z0e j5)
theorem aaX {K:PySem.W.Frag} {O:Addr->Prop} {H:Hp} {lo:Int} {n:Nat}:aY K O H (upto lo n) ((List.range n).map λ (i:Nat)=>V.int (lo+(i:Int))):=by
 unfold upto
 generalize List.range n=l
 induction l with
 |nil=>exact .nil
 |cons x l ih=>exact .cons (cO _) ih
noncomputable def anm:List D->R D
 |[.int j]=>if 0<=j/\j<=1000 then .ok (.lst (upto 0 j.toNat)) else .bad
 |_=> .bad
noncomputable def aaY:List D->R D:=aaF λ i j=>if -1000<=i/\i<=1000/\-1000<=j/\j<=1000 then .ok (.lst (upto i (j - i).toNat)) else .bad
theorem ane (i j:Int):aaY [.int i,.int j]=(if -1000<=i/\i<=1000/\-1000<=j/\j<=1000 then .ok (.lst (upto i (j - i).toNat)) else .bad):=rfl
theorem afD (hc:X.calm=true) (hg:Gl X "list") (hm:X.mg "list" =none) (hg2:Gl X "range") (hm2:X.mg "range" =none) (ha:DA X [a,b] fa) (hs2:autoParam (starEach [a,b] X.env=[(false,eval a X.env),(false,eval b X.env)]) bD._auto_1) (hs3:autoParam (starEach [b] X.env=[(false,eval b X.env)]) bD._auto_1)
  (he:autoParam (starEach [.Call (.Name "range" p) [a,b] [] pos] X.env=(false,eval (.Call (.Name "range" p) [a,b] [] pos) X.env)::starEach [] X.env) bD._auto_1) (hpl:autoParam ((backTo pos2 (starEach [] X.env)).any (·.1)=false) bD._auto_1):
  DE X (.Call (.Name "list" p2) [.Call (.Name "range" p) [a,b] [] pos] [] pos2) (aH aaY fa):=by
 refine PE.imp (pe_callTy (adH hc) hg hm boot_list (pa_cons (ahq hg2 hm2 ha hs2 hs3) pa_nil he) (by decide) (by decide) he hpl) λ σ H Q q=>?_
 obtain⟨ρ,O,j,q⟩:=q
 refine go j q λ ds vs H1 e1 s1 r1 j1 h1=>?_
 replace h1:=Nu h1
 obtain⟨i,k,rfl,h1⟩:=h1
 ·skip
  obtain⟨x,y,rfl,rx,ry⟩:=r1.two
  by_cases hi: -1000<=i/\i<=1000/\-1000<=k/\k<=1000
  ·rw[if_pos hi] at h1
   refine⟨i,k,by rw[rx.int,ry.int],λ q hq=>⟨q,i,k,rfl,upd_same,hi.1,hi.2.1,hi.2.2.1,hi.2.2.2,λ B hB=>?_⟩⟩
   have s2:Same H1 (upd H1 q (.rng i k)):=Same.upd hq
   exact h1 _ _ (s2.trans (Same.upd hB)) (Rep.nM hB ((j1.same s2).vZ hB) aaX)
  ·rw[if_neg hi] at h1;exact h1.elim
end
end Pu
namespace Pu
open PySem PySem.Spec PySem.W L2
open PyProof.Rows hiding St
section
variable {prog:Program} {w:World} {A:Around} {s:Shared}
noncomputable def EqB (prog:Program) (w:World) (A:Around) (s:Shared) (u v:Value) (b:Bool):Prop:=∀(Q:Bool->Shared->Prop) (E:Value->Shared->Prop),Q b s->wpAny (model prog w) A (eqBool u v) Q E s
noncomputable def LtB (prog:Program) (w:World) (A:Around) (s:Shared) (u v:Value) (b:Bool):Prop:=∀(Q:Value->Shared->Prop) (E:Value->Shared->Prop),Q (.bool b) s->wpAny (model prog w) A (compareOp .Lt u v) Q E s
inductive Lx (prog:Program) (w:World) (A:Around) (s:Shared) (r:Bool):List Value->List Value->Prop
 |nil:r=false->Lx prog w A s r [] []
 |yes {u v xs ys}:EqB prog w A s u v true->Lx prog w A s r xs ys->Lx prog w A s r (u::xs) (v::ys)
 |no {u v xs ys}:EqB prog w A s u v false->LtB prog w A s u v r->Lx prog w A s r (u::xs) (v::ys)
theorem X6 {E:Value->Shared->Prop} {a b:Addr} {oa ob:Obj} {xs ys:Array Value} {na nb:Nat} {r:Bool} {P:PySem.Fin->Shared->Prop} (hoa:s.heap.get? a=some oa) (hda:oa.data= .seq xs na) (hob:s.heap.get? b=some ob) (hcb:ob.cls= .type "tuple") (hdb:ob.data= .seq ys nb)
  (hl:Lx prog w A s r xs.toList ys.toList) (hsz:xs.size=ys.size) (h:P (.done (.ret (.bool r))) s):
  wpAny (model prog w) A (Builtin.«tuple.__lt__» ⟨[.ref a,.ref b],[]⟩) P E s:=by
 have hTb:s.TypeIs (.ref b) "tuple" :=⟨ob,hob,hcb⟩
 show wpAny _ _ (isInstance (.ref b) (.type "tuple") >>=_) _ _ s
 refine wpAny_bind (wpAny_isInstance hTb isSubtype_tuple_tuple ?_)
 simp only[Bool.not_true,Bool.false_eq_true,if_false]
 refine wpAny_bind (wpAny_tupleItemsOf hoa hda ?_)
 refine wpAny_bind (wpAny_tupleItemsOf hob hdb ?_)
 refine wpAny_bind ?_
 refine wpAny_forIn_list _
  (λ rest q s'=>q.1=none/\s'=s/\∃xs' ys',rest=List.zip xs' ys'/\Lx prog w A s r xs' ys')
  _ ?_ ?_ _ _ ⟨rfl,rfl,xs.toList,ys.toList,rfl,hl⟩
 ·rintro⟨u,v⟩ rest q s' ⟨hr,rfl,xs',ys',hz,hx'⟩
  cases hx' with
  |nil _=>simp at hz
  | yes he hx''=>
   simp only[List.zip_cons_cons,List.cons.injEq,Prod.mk.injEq] at hz
   obtain⟨⟨rfl,rfl⟩,rfl⟩:=hz
   refine wpAny_bind (he _ _ ?_)
   simp only[Bool.not_true,Bool.false_eq_true,if_false]
   exact wpAny_pure ⟨rfl,rfl,_,_,rfl,hx''⟩
  | no he hlt=>
   simp only[List.zip_cons_cons,List.cons.injEq,Prod.mk.injEq] at hz
   obtain⟨⟨rfl,rfl⟩,rfl⟩:=hz
   refine wpAny_bind (he _ _ ?_)
   simp only[Bool.not_false,if_true]
   refine wpAny_bind (wpAny_rule ?_)
   refine wpAny_bind (m:=richCompare .Lt u v) (show wpAny _ _ (compareOp .Lt u v) _ _ _ from hlt _ _ ?_)
   first
    |exact wpAny_pure (wpAny_pure h)
    |exact wpAny_bind (wpAny_pure (wpAny_pure (wpAny_pure h)))
    |exact wpAny_bind (wpAny_pure (wpAny_pure h))
 ·rintro⟨r1,r2⟩ s' ⟨hr,rfl,xs',ys',hz,hx'⟩
  simp only at hr
  subst hr
  refine wpAny_pure ?_
  have hfin:decide (xs.size < ys.size)=r:=by
   cases hx' with
   |nil e=>rw[e];exact decide_eq_false (by omega)
   |yes _ _=>simp at hz
   |no _ _=>simp at hz
  show P (.done (.ret (.bool (decide (xs.size < ys.size))))) s'
  rw[hfin];exact h
theorem Z7 {i j:Int} {t u:Tok} {b:Bool} (e:(i ==j)=b):EqB prog w A s (.int i t) (.int j u) b:=λ Q E h=>wpAny_eqBool_int (by rw[e];exact h)
theorem ahr {i j:Int} {t u:Tok}:LtB prog w A s (.int i t) (.int j u) (decide (i < j)):=λ Q E h=>lt_int h
end
section
variable {X:Cx}
end
end Pu
namespace Pu
open PySem PySem.Spec L2
open PyProof.Rows hiding St
section
variable {X:Cx} {pins:List (Addr×Obj)} {σ:St} {H:Hp} {s:Shared}
end
section
variable {X:Cx} {qual:Str} {params:Arguments} {body:Expr} {scope:Scope} {xS:Str} {cc P fS:Addr} {Ve:FuncData} {Rg:List Str} {kS kG q:Nat} {FS:Addr->(List D->R D)->List D->R D} {GG:List D->R D} {p p4 pos2 ajg:Pos} {e1 e2 e3:Expr} {f1 f2 f3:aq->R D}
end
end Pu
namespace Pu
open PySem PySem.Spec PySem.W L2
open PyProof.Rows hiding St
section
variable {prog:Program} {w:World} {A:Around} {R:Result->Shared->Prop} {I l S:Addr} {its:Array Value} {h0:Heap} {bt:Nat->Nat->Bool}
end
section
variable {prog:Program} {w:World} {A:Around} {E:Value->Shared->Prop} {s:Shared} {l:Addr} {its:Array Value} {bt:Nat->Nat->Bool} {Q:Value->Shared->Prop}
end
section
variable {X:Cx}
end
end Pu
namespace Pu
open PySem PySem.Spec PySem.W L2
open PyProof.Rows hiding St
open PySem.SeqAt
section
variable {X:Cx} {e1 e2:Expr} {f g:aq->R D}
end
end Pu
namespace Pu
open PySem PySem.Spec L2
open PyProof.Rows hiding St
section
variable {X:Cx}
end
section
variable {X:Cx} {e:Expr} {f:aq->R D} {pos:Pos}
end
end Pu
namespace Pu
open PySem PySem.Spec PySem.W L2
open PyProof.Rows hiding St
section
variable {prog:Program} {w:World} {A:Around} {E:Value->Shared->Prop} {s:Shared}
end
section
variable {X:Cx}
end
end Pu
namespace Pu
open PySem PySem.Spec L2
open PyProof.Rows hiding St
noncomputable def aaZ (ts:List (Addr×Str)) (K:PySem.W.Frag) (n:Nat) (F:List D->R D):Sp:=λ vs H Q E=>Tb ts H/\spX K n F vs H Q E
section
variable {P:Program} {w:World} {K:PySem.W.Frag} {mg:Str->Option Value} {base:Heap}
theorem aji {ts:List (Addr×Str)} {x qual:Str} {st:Stmt} {f:Addr} {fd:FuncData} {N ps:List Str} {k n m:Nat} {g:aq->So} (Fn:Fun K x qual st f fd) (S:FnScope N ps (defScope st)) (hn:ps.length=n) (hm:N.length=n+m)
  (hb:∀(cdv:Value) (A:Around) (outer:List PySem.Env) (s:Shared) (H:Hp) (E:XK),Room k (A.deeper (envOfC qual (defScope st) s.heap.objs.size f cdv))->Tb ts H->cX (cxOf (U9 P w) P w K mg base N qual (defScope st) f cdv A outer s H E) (defBody st) g):
  FnOk P w K mg base (U9 P w) (k+1) f fd ps (aaZ ts K n (cT m g)):=by
 obtain⟨oc,od,kV,doc,pm,an,cdv,ct,osl,rfl,lk,hcd⟩:=Fn.ex
 refine fn_of lk hcd S (λ vs H Q E h=>?_) λ A outer s H vs Q E hr h=>?_
 ·obtain⟨_,O,ds,r,hl,_⟩:=h
  rw[hn,<-hl,r.length]
 ·obtain ⟨hT,O,ds,r,hl,al,h⟩:=h
  refine⟨_,hb cdv A outer s H E hr hT,H,O,O,ds.map (λ d=>some (.val d))++List.replicate m none,?_,?_⟩
  ·have hst:L2.start N vs=vs.map some++List.replicate m none:=by
    unfold L2.start
    rw[show N.length - vs.length=m by rw[<-r.length];omega]
   refine⟨Same.refl _,.refl,λ Z z=>z,⟨⟨λ i e q=>?_,λ i k e e' v Z hi Z oi=>?_⟩,al,?_,?_⟩,λ i e a q ho=>?_⟩
   ·obtain⟨v,h1,h2,_⟩:=vQ r m i e q
    exact⟨v,by rw[hst];exact h1,h2⟩
   ·obtain⟨_,_,_,h3⟩:=vQ r m i e hi
    rw[h3] at oi;cases oi
   ·show (L2.start N vs).length=N.length
    rw[hst,z1d,z1g,List.length_replicate,<-r.length];omega
   ·show (ds.map (λ d=>some (Ent.val d))++List.replicate m none).length=N.length
    rw[z1d,z1g,List.length_replicate];omega
   ·obtain⟨_,_,_,h3⟩:=vQ r m i e q
    rw[h3] at ho;cases ho
  ·unfold cT at h
   cases e2:g (ds.map (λ d=>some (.val d))++List.replicate m none) with
   |rt d=>rw[e2] at h;exact λ v H' s' r'=>h v H' s' r'
   |nx ρ'=>rw[e2] at h;exact λ σ' H' O' j' Z=>h .non H' j'.same qO
   |bk _=>rw[e2] at h;exact h.elim
   |ct _=>rw[e2] at h;exact h.elim
   |bad=>rw[e2] at h;exact h.elim
   | ex c ρ'=>
    rw[e2] at h
    intro σ' H' O' j' H1 pins s1 a C T s2 H2 sm I hC rs
    have J:Inv (cxOf (U9 P w) P w K mg base N qual (defScope st) f cdv A outer s H E) pins σ' H2 s2:=I.call' rs.os rs.un rs.hok rs.bare λ b z=>absurd z (by simp)
    have pL:Dq P w (frs outer) H s a C T s2 H2:=Dq.from I rfl rs (j'.same.trans sm)
    refine ady (b0:=base) (L:=s.heap.objs.size) (outer:=outer) J.ok.frames J.stack rfl rs.exc λ h' t' ld=>?_
    refine⟨a,C,some t',H2,rfl,h C H2 hC,?_⟩
    have ne:∀b o,s.heap.get? b=some o->b≠a/\T≠some b:=λ b o q=>⟨λ z=>(by rw[z,pL.na] at q;cases q),λ z=>(by rw[(pL.nt b z).1] at q;cases q)⟩
    have nL:∀b o,s.heap.get? b=some o->b≠s.heap.objs.size:=λ b o q=>Nat.ne_of_lt (z2c q)
    have fr:∀b,b∈frs (envOfC qual (defScope st) s.heap.objs.size f cdv::outer)->b=s.heap.objs.size\/b∈frs outer:=λ b hb=>List.mem_cons.mp hb
    have fr':∀b,b∈frs outer->b∈frs (envOfC qual (defScope st) s.heap.objs.size f cdv::outer):=λ b hb=>z2f _ hb
    have hfree:∀b,b∈frs (envOfC qual (defScope st) s.heap.objs.size f cdv::outer)->H2 b=none:=J.stkFree
    refine⟨pL.same,⟨λ b o q n hb hx=>?_,λ b o q n hb hx=>?_,pL.un.free,λ b o q hx=>?_,pL.un.tups,pL.un.frzs,pL.un.tbls⟩,ld.hok pL.hok pL.ha (λ t z=>(pL.nt t z).2) hfree,pL.os,pL.bare,ld.exc,pL.na,pL.ha,λ t z=>?_⟩
    ·exact ld.keep b o (pL.un.keep b o q n hb hx) (ne b o q).1 (ne b o q).2 λ z=>(fr b z).elim (nL b o q) hb
    ·obtain⟨sl,e⟩:=pL.un.slot b o q n hb hx
     obtain⟨sl',e'⟩:=ld.slot b _ e (fr' b hb)
     exact⟨sl',e'⟩
    ·obtain⟨o',e⟩:=pL.un.there b o q hx
     by_cases hb:b∈frs (envOfC qual (defScope st) s.heap.objs.size f cdv::outer)
     ·obtain⟨sl',e'⟩:=ld.slot b _ e hb
      exact⟨_,e'⟩
     ·exact⟨o',ld.keep b o' e (ne b o q).1 (ne b o q).2 hb⟩
    ·cases z
     rcases ld.old with z |z
     ·exact pL.nt t' z
     ·refine⟨?_,JC pL.hok z⟩
      cases q:s.heap.get? t' with
      |none=>rfl
      | some o=>
       obtain⟨o',e⟩:=pL.un.there t' o q (by simp)
       rw[z] at e;cases e
end
noncomputable def tZ (P:Program) (w:World) (K:PySem.W.Frag) (mg:Str->Option Value) (base:Heap) (k:Nat) (x:Str) (n:Nat) (F:List D->R D) (fd:FuncData) (ps:List Str) (ts:List (Addr×Str)):Prop:=
 ∃f,FnOk P w K mg base (U9 P w) k f fd ps (aaZ ts K n F)/\mg x=some (.ref f)/\PySem.W.keepIn K (.ref f)=true
noncomputable def oH (F:List D->R D) (n m:Nat) (sel:List (Sum Nat D)) (fa fk:aq->R (List D)):aq->R D:=λ ρ=>(fa ρ).bind λ ds=>(fk ρ).bind λ zs=>if zs.length=m then okN F n (ds++pickK .non sel zs) else .bad
section
variable {X:Cx} {k m n:Nat} {f:Addr} {fd:FuncData} {ps ks:List Str} {F:List D->R D} {x:Str} {p pos:Pos} {e:Expr} {es:List Expr} {kws:List Keyword} {fa fk:aq->R (List D)} {ts:List (Addr×Str)}
theorem adI (ok:FnOk X.prog X.w X.K X.mg X.base (U9 X.prog X.w) k f fd ps (aaZ ts X.K n F)) (hr:Room m X.A) (hkm:k<=m) {pins:List (Addr×Obj)} {σ:St} {H:Hp} {s:Shared} {O:Addr->Prop} {ρ:aq} {ds:List D} {vs:List V} {us:List Value} {pa:List Value} {kw:List (Str×Value)} {Q:VK}
  (I:Inv X pins σ H s) (hT:Tb ts H) (r1:aY X.K O H ds vs) (r:Vals vs us) (j:In X O H ρ σ) (hb:us.length=ps.length->BindsTo s fd ⟨pa,kw⟩ (ps.zip us)) (h:good X (rD X) O (okN F n ds) σ H Q):wpAny (model X.prog X.w) X.A (PySem.call (.ref f) pa kw) (EP X pins σ Q) X.xe s:=by
 unfold okN at h
 by_cases hl:ds.length=n
 ·rw[if_pos hl] at h
  have sp:aaZ ts X.K n F vs H Q λ u Z Z=>∃c C,F ds= .err c/\u= .ref C/\PySem.W.nsIn X.K mainGlobals c=some (some (.ref C)):=by
   refine⟨hT,O,ds,r1,hl,j.al,?_⟩
   cases q:F ds with
   |ok d=>rw[q] at h;exact h
   |bad=>rw[q] at h;exact h
   |err c=>exact λ C Z hC=>⟨c,C,rfl,rfl,hC⟩
  have hll:us.length=ps.length:=by rw[<-r.length];exact ok.len _ _ _ _ sp
  refine wpAny_call (codeAny_mono ((ok.mono hkm).run X.A X.stack s H ⟨pa,kw⟩ us vs Q _ hr I.env0 (hb hll) r sp) λ r s' hq=>?_)
  cases r with
  | error ev=>
   obtain⟨a,C,T,H',rfl,hE,rs⟩:=hq
   obtain⟨c,C',q,z,hC⟩:=hE
   cases z
   rw[q] at h
   exact h H pins s a C T s' H' (Same.refl _) I hC rs
  | ok fl=>
   cases fl with
   |ret u=>exact I.after hq
   |next=>exact False.elim hq
   |brk=>exact False.elim hq
   |cont=>exact False.elim hq
 ·rw[if_neg hl] at h;exact h.elim
theorem Oh {sa sb sc} (S:Sel sa sb sc) (G:tZ X.prog X.w X.K X.mg X.base k x n F fd ps ts) (hT:Tb ts X.H₀) (hr:Room m X.A) (hkm:k<=m) (hb:KB X.K fd ps [] sa)
  (ha:DA X (e::es) fa) (hg:Gl X x:=by rfl) (hdb:(x ==("__debug__" :Str))=false:=by decide) (he:starEach (e::es) X.env=(false,eval e X.env)::starEach es X.env:=by rfl) (hpl:(backTo pos (starEach es X.env)).any (·.1)=false:=by rfl):
  DE X (.Call (.Name x p) (e::es) [] pos) (oH F n 0 sc fa (λ Z=> .ok [])):=by
 obtain⟨f,ok,hm,hk⟩:=G
 intro pins s σ H Q I h
 obtain⟨ρ,O,j,h⟩:=h
 refine wpAny_Call_Name_kw (ld_glob I hg hm ?_ hdb)
 have key:tG X (Iz X) fa σ H (λ vs H1=>∃ds,Same H H1/\aY X.K O H1 ds vs/\In X O H1 ρ σ/\good X (rD X) O (okN F n (ds++pickK .non sc [])) σ H1 Q):=go j h λ ds vs H1 e1 s1 r1 j1 h1=>⟨ds,s1,r1,j1,h1⟩
 refine PySem.W.callWith_K (h₀:=X.base) I.ok.mod.kin hk (thn (ha pos pins s σ H _ I key) λ us s1 ⟨vs,H1,I1,r,q⟩=>⟨I1.kIn,?_⟩) he hpl
 obtain⟨ds,sm,r1,j1,h1⟩:=q
 exact adI ok hr hkm I1 (hT.un I1.base) (r1.append (S.reps .nil)) (r.append (S.vals .nil)) j1 (λ hl=>hb s1 us [] I1.kIn (by rw[z1d,yH] at hl;exact hl) rfl) h1
theorem Oi {sa sb sc} (S:Sel sa sb sc) (G:tZ X.prog X.w X.K X.mg X.base k x n F fd ps ts) (hT:Tb ts X.H₀) (hr:Room m X.A) (hkm:k<=m) (hb:KB X.K fd ps ks sa)
  (ha:DA X (e::es) fa) (hkw:DK X kws fk) (hg:Gl X x:=by rfl) (hall:(backToKw pos (keywordEach kws X.env)).all (·.1.isSome)=true:=by rfl) (hks:(backToKw pos (keywordEach kws X.env)).filterMap (·.1)=ks:=by rfl)
  (hdb:(x ==("__debug__" :Str))=false:=by decide) (he:starEach (e::es) X.env=(false,eval e X.env)::starEach es X.env:=by rfl)
  (hpl:((backTo pos (starEach (e::es) X.env)).any (·.1) || (backToKw pos (keywordEach kws X.env)).any (·.1.isNone))=false:=by rfl):
  DE X (.Call (.Name x p) (e::es) kws pos) (oH F n ks.length sc fa fk):=by
 obtain⟨f,ok,hm,hk⟩:=G
 intro pins s σ H Q I h
 obtain⟨ρ,O,j,h⟩:=h
 refine wpAny_Call_Name_kw (ld_glob I hg hm ?_ hdb)
 have key:tG X (Iz X) fa σ H λ vs H1=>tG X (Iz X) fk σ H1 λ zs H2=>zs.length=ks.length/\∃dd,aY X.K O H2 dd (vs++pickK .non sb zs)/\In X O H2 ρ σ/\good X (rD X) O (okN F n dd) σ H2 Q:=by
  refine go j h λ ds vs H1 e1 s1 r1 j1 h1=>?_
  refine go j1 h1 λ zd zs H2 e2 s2 r2 j2 h2=>?_
  by_cases hz:zd.length=ks.length
  ·rw[if_pos hz] at h2
   exact⟨by rw[<-r2.length];exact hz,_,(r1.same s2).append (S.reps r2),j2,h2⟩
  ·rw[if_neg hz] at h2;exact h2.elim
 refine PySem.W.callWith_KW (h₀:=X.base) I.ok.mod.kin hk hall (thn (ha pos pins s σ H _ I key) λ us s1 ⟨vs,H1,I1,r,q⟩=>?_) hpl he
 refine thn (hkw pos pins s1 σ H1 _ I1 q) λ ws s2 ⟨zs,H2,I2,rz,q2⟩=>⟨I2.kIn,?_⟩
 rw[hks]
 obtain⟨hz,dd,r1,j1,h1⟩:=q2
 exact adI ok hr hkm I2 (hT.un I2.base) r1 (r.append (S.vals rz)) j1 (λ hl=>hb s2 us ws I2.kIn (by rw[z1d,yH] at hl;exact hl) (by rw[<-rz.length];exact hz)) h1
theorem agK {K:PySem.W.Frag} (b:Binds K fd ps []):KB K fd ps [] []:=λ s us ws i hl hw=>by
 cases List.eq_nil_of_length_eq_zero hw
 have:=b s us i (by rw[List.append_nil];exact hl)
 simpa[pickK] using this
end
section
variable {X:Cx} {tg a b c:Expr} {p pos p2 pos2:Pos} {fa:aq->R (List D)} {ta:TA}
end
end Pu
namespace Pu
open PySem PySem.Spec PySem.W L2
open PyProof.Rows hiding St
open PySem.SeqAt
section
variable {X:Cx} {e1 e2:Expr} {f g:aq->R D}
theorem afE {pins:List (Addr×Obj)} {σ:St} {H:Hp} {s:Shared} {A:Around} {O O':Addr->Prop} {d:D} {y:V} {u:Value} (I:Inv X pins σ H s) (re:Rep X.K O' H d y) (ru:RelV y u) (hA:∀(d':D) (v:V) (w:Value),dep d'<=40->Rep X.K O H d' v->RelV v w->EqAt A s w u (fB d' d)):
  ∃e:Value->Bool,∀(ds:List D) (vs:List V) (its:List Value),aY X.K O H ds vs->Vals vs its->(∀d'∈ds,dep d'<=40)->its.map e=ds.map (fB · d)/\∀w∈its,EqAt A s w u (e w):=by
 classical
 have key:∀d' v w,Rep X.K O H d' v->RelV v w->(decide (∃d' v,Rep X.K O H d' v/\RelV v w/\fB d' d=true))=fB d' d:=λ d' v w r1 q1=>by
  cases z:fB d' d with
  |true=>exact decide_eq_true ⟨d',v,r1,q1,z⟩
  | false=>
   refine decide_eq_false λ bW=>?_
   obtain⟨d2,v2,r2,q2,z2⟩:=bW
   have ev:v2=v:=RelV.inj q2 q1
   subst ev
   rw[Rep.inj I d2 d' v2 r2 r1,z] at z2
   cases z2
 refine⟨λ w=>decide (∃d' v,Rep X.K O H d' v/\RelV v w/\fB d' d=true),λ ds=>?_⟩
 induction ds with
 |nil=>intro vs its r q Z;rw[r.nil_inv] at q;cases q;exact⟨rfl,λ w m=>by cases m⟩
 | cons a ds ih=>
  intro vs its r q hd
  obtain⟨x,t,rfl,h1,h2⟩:=r.cons_inv
  cases q with
  | cons q1 q2=>
   obtain⟨i1,i2⟩:=ih _ _ h2 q2 λ d' m=>hd d' (z2f _ m)
   refine⟨by rw[z1h,z1h,i1,key a _ _ h1 q1],λ w m=>?_⟩
   rcases List.mem_cons.mp m with rfl |m
   ·show EqAt _ _ _ _ (decide _)
    rw[key a _ _ h1 q1]
    exact hA a _ _ (hd a List.mem_cons_self) h1 q1
   ·exact i2 w m
theorem ajj {e:Value->Bool} {d:D} {its:List Value} {ds:List D} (h:its.map e=ds.map (fB · d)):its.any e=ds.any (fB · d):=by
 have a:(its.map e).any id=its.any e:=by rw[List.any_map];rfl
 have b:(ds.map (fB · d)).any id=ds.any (fB · d):=by rw[List.any_map];rfl
 rw[<-a,h,b]
end
end Pu
namespace Pu
open PySem PySem.Spec L2
open PyProof.Rows hiding St
section
variable {X:Cx}
theorem Vo {tg iter elt:Expr} {ifs:List Expr} {scope:Scope} {pos:Pos} {fi:aq->R (List D)} {gt:D->aq->R aq} {ft:aq->R Bool} {fe:aq->R D} (ts:List Str) (caps:List Nat)
  (hc:X.calm=true) (hb:Jq X.env.scope scope ts X.N=true) (hcap:(fY scope).map (λ x=>nY x X.N)=caps)
  (hi:DI X tg iter fi) (hk:tH ts.length gt) (hg:∀C s H ex,(cV X scope ts C s H ex).N.Nodup->DG (cV X scope ts C s H ex) tg gt) {KN:List (Addr×Str)} (hT:Tb KN X.H₀) (ht:∀C s H ex,Tb KN H->Ul (cV X scope ts C s H ex) ifs ft) (he:∀C s H ex,Tb KN H->DE (cV X scope ts C s H ex) elt fe)
  (hs:∀x,foldedSetIterable iter X.env x=pure x:=by intro Z;rfl):
  DE X (.ListComp elt [⟨tg,iter,ifs,0⟩] scope pos) (bR ts.length caps fi gt ft fe):=by
 intro pins s σ H Q I h
 obtain⟨ρ,O,j,h⟩:=h
 rw[eval_ListComp]
 exact Rc ts caps hc hb hcap hi hk hg hT ht he hs (use:=none) (Qr:=EP X pins σ Q) I j (λ v H' s5 C m f acc hv I6 hns fp rv=>⟨m,hns,λ h' sb=>⟨v,H',I6.fp fp sb,rv,hv⟩⟩) h
end
end Pu
namespace Pu
open PySem PySem.Spec PySem.W L2
open PyProof.Rows hiding St
noncomputable def Ey (h:Heap) (a:Addr) (l:Int) (ps:List Int):Prop:=∃(o o2:Obj) (n n2:Nat) (t:Tok) (p:Addr) (vs:Array Value),h.get? a=some o/\o.cls= .type "tuple"/\o.data= .seq #[.int l t,.ref p] n/\h.get? p=some o2/\o2.cls= .type "tuple"/\o2.data= .seq vs n2/\IntsAre vs.toList ps
noncomputable def Ub (K:PySem.W.Frag) (H:Hp) (a:Addr) (ns:List Int):Prop:=∃l ps p,ns=l::ps/\SqT K H a [.int l,.ref p]/\SqT K H p (ps.map V.int)
section
variable {prog:Program} {w:World} {A:Around} {s:Shared}
theorem ahs {x y:Addr} {l l':Int} {ps qs:List Int} (hu:A.units < cLine) (hx:Ey s.heap x l ps) (hy:Ey s.heap y l' qs):∃(oa ob:Obj) (xs ys:Array Value) (na nb:Nat),s.heap.get? x=some oa/\oa.cls= .type "tuple"/\oa.data= .seq xs na/\s.heap.get? y=some ob/\ob.cls= .type "tuple"/\ob.data= .seq ys nb/\xs.size=ys.size/\Lx prog w A s (fG (l::ps) (l'::qs)) xs.toList ys.toList:=by
 obtain⟨o,o2,n,n2,t,p,vs,h1,h2,h3,h4,h5,h6,h7⟩:=hx
 obtain⟨o',o2',n',n2',t',p',vs',g1,g2,g3,g4,g5,g6,g7⟩:=hy
 refine⟨o,o',_,_,n,n',h1,h2,h3,g1,g2,g3,rfl,?_⟩
 show Lx prog w A s _ [.int l t,.ref p] [.int l' t',.ref p']
 rw[fG]
 by_cases e1:l=l'
 ·rw[if_pos e1]
  refine .yes (Z7 (by simpa using e1)) ?_
  have eq:EqB prog w A s (.ref p) (.ref p') (decide (ps=qs)):=λ Q E h=>wpAny_eqBool_tuple (knd:=intKind prog w) hu ⟨o2,vs,n2,h4,h5,h6,wM h7⟩ ⟨o2',vs',n2',g4,g5,g6,wM g7⟩ h
  by_cases e3:ps=qs
  ·rw[decide_eq_true e3] at eq
   exact .yes eq (.nil (by rw[e3];exact pJ _))
  ·rw[decide_eq_false e3] at eq
   exact .no eq λ Q E h=>Z5 hu h4 h5 h6 g4 g5 g6 h7 g7 h
 ·rw[if_neg e1]
  exact .no (Z7 (by simpa using e1)) ahr
theorem afF {E:Value->Shared->Prop} {a b:Addr} {l l':Int} {ps qs:List Int} {Q:Value->Shared->Prop} (hu:A.units+2 < cLine) (hx:Ey s.heap a l ps) (hy:Ey s.heap b l' qs) (h:Q (.bool (fG (l::ps) (l'::qs))) s):wpAny (model prog w) A (compareOp .Lt (.ref a) (.ref b)) Q E s:=by
 obtain⟨oa,o2,n,n2,t,p,vs,h1,h2,_⟩:=id hx
 obtain⟨ob,o2',n',n2',t',p',vs',g1,g2,_⟩:=id hy
 show wpAny _ _ (richCompare .Lt (.ref a) (.ref b)) _ _ _
 refine wpAny_richCompare_same_room (op:= .Lt) ⟨oa,h1,h2⟩ ⟨ob,g1,g2⟩ PySem.F.slot_tuple_lt
   (wpAny_call_entry PySem.F.slot_tuple_lt ⟨oa,h1,h2⟩ PySem.F.entry_tuple_lt (by
    obtain⟨oa,ob,xs,ys,na,nb,k1,k2,k3,k4,k5,k6,k7,k8⟩:=ahs (prog:=prog) (w:=w) (A:=A.in1) (show A.in1.units < cLine from ?_) hx hy
    exact X6 k1 k3 k4 k5 k6 k8 k7 ⟨_,rfl,(λ e=>nomatch e),h⟩) (PySem.F.args_tuple_lt_2 _ _)) (by omega)
 first |exact z0c (by simp) hu |(show A.units+_ < cLine;omega)
end
section
variable {X:Cx}
theorem Z8 {pins:List (Addr×Obj)} {σ:St} {H:Hp} {s:Shared} {a:Addr} {ns:List Int} (I:Inv X pins σ H s) (h:Ub X.K H a ns):∃l ps,ns=l::ps/\Ey s.heap a l ps:=by
 obtain⟨l,ps,p,rfl,h1,h2⟩:=h
 obtain⟨its,r1,⟨o,ho,hc,n,hd⟩,_⟩:=I.tuple h1
 obtain⟨its2,r2,⟨o2,ho2,hc2,n2,hd2⟩,_⟩:=I.tuple h2
 refine⟨l,ps,rfl,?_⟩
 cases r1 with
 | cons a1 r1=>
  cases r1 with
  | cons a3 r1=>
   cases r1
   obtain⟨t,rfl⟩:=a1
   cases a3
   exact⟨o,o2,n,n2,t,p,its2.toArray,ho,hc,hd,ho2,hc2,hd2,by simpa using N6 r2⟩
theorem ajk (hu:X.A.units+2 < cLine):OpR X (compareOp .Lt) (λ x y H Q=>∃a b,∃ns ms:List Int,x= .ref a/\y= .ref b/\Ub X.K H a ns/\Ub X.K H b ms/\Q (.bl (fG ns ms)) H):=by
 intro pins s σ H x y v u Q I rx ry h
 obtain⟨a,b,ns,ms,rfl,rfl,ha,hb,q⟩:=h
 cases rx
 cases ry
 obtain⟨l,ps,rfl,h1⟩:=Z8 I ha
 obtain⟨l',qs,rfl,h2⟩:=Z8 I hb
 exact afF hu h1 h2 ⟨.bl _,H,I,rfl,q⟩
noncomputable def pairOf:D->Option (List Int)
 | .tup [.int l,.tup ps]=>(intsOf ps).map λ ns=>l::ns
 |_=>none
set_option tactic.hygienic true in
theorem Vp {K:PySem.W.Frag} {O:Addr->Prop} {H:Hp} {d:D} {v:V} {t:List Int} (e:pairOf d=some t) (r:Rep K O H d v):∃b,v= .ref b/\Ub K H b t:=by
 unfold pairOf at e
 split at e
 ·rename_i l ps
  cases q:intsOf ps with
  |none=>rw[q] at e;cases e
  | some ns=>
   rw[q] at e;cases e
   obtain⟨a,xs,rfl,hq,rs⟩:=r.tup
   obtain⟨v1,v3,rfl,r1,r3⟩:=rs.two
   have r1:=r1.int
   subst r1
   obtain⟨p,ys,rfl,hq2,Ed⟩:=r3.tup
   have e2:=Em q Ed
   subst e2
   exact⟨a,rfl,⟨l,ns,p,rfl,hq,hq2⟩⟩
 ·cases e
noncomputable def Vq (x y:D):R D:=match pairOf x,pairOf y with
 |some a,some b=> .ok (.bl (fG a b))
 |_,_=> .bad
theorem ajl (hu:X.A.units+2 < cLine):lD X (compareOp .Lt) Vq:=by
 refine⟨_,ajk hu,λ ρ O σ H Q x y dx dy j0 rx ry h=>?_⟩
 unfold Vq at h
 cases e1:pairOf dx with
 |none=>rw[e1] at h;exact h.elim
 | some ns=>
  cases e2:pairOf dy with
  |none=>rw[e1,e2] at h;exact h.elim
  | some ms=>
   rw[e1,e2] at h
   obtain⟨a,rfl,ha⟩:=Vp e1 rx
   obtain⟨b,rfl,hb⟩:=Vp e2 ry
   exact⟨a,b,ns,ms,rfl,rfl,ha,hb,fin h (gY _)⟩
end
section
variable {X:Cx}
noncomputable def BW (d:D):D->R D
 | .tup ds=>if ds.all (λ d'=>decide (dep d'<=40)) then .ok (.bl (!ds.any (fB · d))) else .bad
 |_=> .bad
theorem aht (hu:X.A.units+60 < cLine):lD X (compareOp .NotIn) BW:=by
 refine⟨λ x y H Q=>∃(l:Addr) (ds:List D) (vs:List V) (O O':Addr->Prop) (d:D),y= .ref l/\SqT X.K H l vs/\aY X.K O H ds vs/\Rep X.K O' H d x/\(∀d'∈ds,dep d'<=40)/\Q (.bl (!ds.any (fB · d))) H,?_,?_⟩
 ·intro pins s σ H x y v u Q I rx ry h
  obtain⟨l,ds,vs,O,O',d,rfl,hq,rs,re,hd,q⟩:=h
  cases ry
  obtain⟨its,r',pl,hz⟩:=I.tuple hq
  obtain⟨e,he⟩:=afE (A:=X.A.in1) I re rx (O:=O) λ d' v' w hd' r q=>Jv I 40 _ d' hd' (by simp;omega) d v' x w v r re q rx
  obtain⟨h1,h2⟩:=he ds vs its rs r' hd
  refine SeqAt.notIn_tupleAt e pl (λ w hw=>h2 w (by simpa using hw)) ⟨.bl _,H,I,rfl,?_⟩
  rw[show its.toArray.any e=its.any e by simp,ajj h1]
  exact q
 ·intro ρ O σ H Q x y dx dy j0 rx ry h
  cases dy with
  | tup ds=>
   obtain⟨a,xs,rfl,hq,rs⟩:=ry.tup
   have h:good X (rD X) O (if ds.all (λ d'=>decide (dep d'<=40)) then .ok (.bl (!ds.any (fB · dx))) else .bad) σ H Q:=h
   by_cases hall:ds.all (λ d=>decide (dep d<=40))=true
   ·rw[if_pos hall] at h
    exact⟨a,ds,xs,O,O,dx,rfl,hq,rs,rx,λ d m=>of_decide_eq_true (List.all_eq_true.mp hall d m),fin h (gY _)⟩
   ·rw[if_neg hall] at h;exact h.elim
  |_=>exact h.elim
end
end Pu
namespace K8
open PySem PySem.Spec L2 Pu
open PyProof.Rows hiding St
noncomputable def j9 (c t:Str):Bool:=(c == "NoPictures" && (["NoPictures","SeamError","ValueError"]:List Str).contains t) || (c == "NoManner" && (["NoManner","SeamError","ValueError"]:List Str).contains t) || false
theorem Ez {c t:Str} (h:j9 c t=true):c= "NoPictures"\/c= "NoManner" :=by
 unfold j9 at h
 simp only[Bool.or_eq_true,Bool.and_eq_true,beq_iff_eq,Bool.false_eq_true,or_false] at h
 rcases h with h |h
 ·exact .inl h.1
 ·exact .inr (h.1)
noncomputable def EY:aq->So:=(retS (bin (bin (λ ρ=>ak ρ 0) (aH maxD (ao (λ Z=> .ok (.int 0)) (ao (aH minD (ao (bin (aH eG (ao (λ ρ=>ak ρ 0) (λ Z=> .ok []))) (λ Z=> .ok (.int 1)) fD) (ao (λ ρ=>ak ρ 2) (λ Z=> .ok [])))) (λ Z=> .ok [])))) cI) (aH maxD (ao (λ Z=> .ok (.int 0)) (ao (aH minD (ao (bin (aH eG (ao (bin (λ ρ=>ak ρ 0) (λ Z=> .ok (.int 0)) cI) (λ Z=> .ok []))) (λ Z=> .ok (.int 1)) fD) (ao (λ ρ=>ak ρ 1) (λ Z=> .ok [])))) (λ Z=> .ok [])))) cI))
noncomputable def iQ:List D->R D:=cT 0 EY
noncomputable def yS:aq->So:=(bh (bL (aH wH (ao (bin (aH (bw iQ 3) (ao (λ ρ=>ak ρ 0) (ao (bin (λ ρ=>ak ρ 2) (λ Z=> .ok (.int 1)) fD) (ao (λ ρ=>ak ρ 3) (λ Z=> .ok []))))) (aH (bw iQ 3) (ao (λ ρ=>ak ρ 0) (ao (bin (λ ρ=>ak ρ 2) (λ Z=> .ok (.int 1)) dH) (ao (λ ρ=>ak ρ 3) (λ Z=> .ok []))))) fD) (λ Z=> .ok []))) (aK 5)) (bh (jf (c7 (bin (λ ρ=>ak ρ 1) (λ Z=> .ok (.str "worth")) qb)) (retS (bin (λ ρ=>ak ρ 5) (aH wH (ao (bin (aH (bw iQ 3) (ao (λ ρ=>ak ρ 0) (ao (λ ρ=>ak ρ 2) (ao (bin (λ ρ=>ak ρ 3) (λ Z=> .ok (.int 1)) fD) (λ Z=> .ok []))))) (aH (bw iQ 3) (ao (λ ρ=>ak ρ 0) (ao (λ ρ=>ak ρ 2) (ao (bin (λ ρ=>ak ρ 3) (λ Z=> .ok (.int 1)) dH) (λ Z=> .ok []))))) fD) (λ Z=> .ok []))) dH)) So.nx) (bh (jf (pB (c7 (bin (λ ρ=>ak ρ 4) (λ Z=> .ok .non) adh)) (c7 (bin (λ ρ=>ak ρ 4) (λ ρ=>ak ρ 2) oF))) (bL (bin (λ ρ=>ak ρ 5) (aH wH (ao (bin (bin (bin (λ ρ=>ak ρ 0) (bin (λ ρ=>ak ρ 3) (λ Z=> .ok (.int 1)) fD) cI) (λ ρ=>ak ρ 2) cI) (bin (bin (λ ρ=>ak ρ 0) (λ ρ=>ak ρ 3) cI) (Ks (c7 (bin (λ ρ=>ak ρ 4) (λ ρ=>ak ρ 2) ltI)) (bin (λ ρ=>ak ρ 2) (λ Z=> .ok (.int 1)) fD) (bin (λ ρ=>ak ρ 2) (λ Z=> .ok (.int 1)) dH)) cI) fD) (λ Z=> .ok []))) dH) (aK 5)) So.nx) (retS (λ ρ=>ak ρ 5)))))
noncomputable def iw:List D->R D:=cT 1 yS
noncomputable def yU:aq->So:=(bh (bL (bin (gB (ao (λ Z=> .ok .non) (λ Z=> .ok []))) (wK (λ ρ=>ak ρ 2) (λ Z=> .ok none) (λ ρ=>(((Ek (λ Z=> .ok (.int 1))):aq->R D) ρ).bind Q7)) dH) (aK 3)) (retS (aH Js (ao (bR 2 [3,1,0] (λ ρ=>((ao (λ ρ=>ak ρ 2) (λ Z=> .ok [])) ρ).bind yI) (gQ (gR 2 (bO (aK 0) (bO (aK 1) nilG)))) (λ Z=> .ok true) (aH (bw iw 5) (ao (λ ρ=>ak ρ 4) (ao (λ ρ=>ak ρ 3) (ao (λ ρ=>ak ρ 1) (ao (λ ρ=>ak ρ 0) (ao (bin (λ ρ=>ak ρ 2) (λ ρ=>ak ρ 0) cI) (λ Z=> .ok [])))))))) (λ Z=> .ok [])))))
noncomputable def kh:List D->R D:=cT 1 yU
noncomputable def wQ:aq->So:=(bh (bL (bin (λ Z=> .ok (.int 7)) (λ ρ=>ak ρ 1) jH) (aK 3)) (bh (jf (c7 (bin (λ ρ=>ak ρ 0) (jc (λ Z=> .ok [])) oF)) (bh (bL (bin (λ ρ=>ak ρ 0) (bin (λ ρ=>ak ρ 1) (aH eG (ao (λ ρ=>ak ρ 0) (λ Z=> .ok []))) iZ) cI) (aK 3)) (bh (bL (bin (λ ρ=>ak ρ 1) (aH eG (ao (λ ρ=>ak ρ 0) (λ Z=> .ok []))) jJ) (aK 4)) (bh (jf (pB (c7 (bin (λ ρ=>ak ρ 3) (bin (λ Z=> .ok (.int 10)) (λ Z=> .ok (.int 18)) yO) geI)) (c7 (bin (λ ρ=>ak ρ 4) (λ Z=> .ok (.int 60)) ltI))) (bh (bL (bin (λ ρ=>ak ρ 3) (bin (λ Z=> .ok (.int 10)) (λ Z=> .ok (.int 18)) yO) jJ) (aK 5)) (bh (oE (pB (c7 (bin (λ ρ=>ak ρ 5) (λ Z=> .ok (.int 0)) Ae)) (c7 (bin (λ ρ=>ak ρ 4) (λ Z=> .ok (.int 0)) Ae))) (bh (bL (bin (λ ρ=>ak ρ 5) (λ Z=> .ok (.int 1000000)) jJ) (aK 5)) (bL (bin (λ ρ=>ak ρ 4) (λ Z=> .ok (.int 1)) fD) (aK 4))) 64) (jf (c7 (bin (λ ρ=>ak ρ 5) (λ Z=> .ok (.int 0)) Ae)) (retS (bin (bin (λ ρ=>ak ρ 5) (λ Z=> .ok (.int 1000000)) iZ) (λ ρ=>ak ρ 2) iZ)) So.nx))) So.nx) (bL (bin (λ ρ=>ak ρ 3) (bin (λ Z=> .ok (.int 6553)) (bin (λ ρ=>ak ρ 1) (aH eG (ao (λ ρ=>ak ρ 0) (λ Z=> .ok []))) jJ) jH) jg) (aK 3))))) So.nx) (bh (bL (bin (bin (bin (bin (λ ρ=>ak ρ 3) (λ Z=> .ok (.int 2147483563)) iZ) (λ Z=> .ok (.int 69069)) jH) (bin (λ Z=> .ok (.int 104723)) (bin (λ ρ=>ak ρ 1) (λ Z=> .ok (.int 1)) jg) jH) jg) (λ Z=> .ok (.int 2147483563)) iZ) (aK 3)) (bh (bL (bin (bin (bin (λ ρ=>ak ρ 3) (λ ρ=>ak ρ 3) jH) (bin (λ ρ=>ak ρ 3) (λ Z=> .ok (.int 3)) jJ) jg) (λ Z=> .ok (.int 2147483399)) iZ) (aK 3)) (retS (bin (bin (bin (bin (bin (λ ρ=>ak ρ 3) (λ ρ=>ak ρ 3) jH) (bin (λ ρ=>ak ρ 3) (λ Z=> .ok (.int 7)) jJ) jg) (λ Z=> .ok (.int 2147483647)) iZ) (λ Z=> .ok (.int 11)) jJ) (λ ρ=>ak ρ 2) iZ))))))
noncomputable def cJ:List D->R D:=cT 3 wQ
noncomputable def uc:aq->So:=(retS (bin (jc (ao (λ Z=> .ok (.str "worth")) (ao (λ Z=> .ok (.str "joins")) (λ Z=> .ok [])))) (aH (bw cJ 3) (ao (λ ρ=>ak ρ 0) (ao (λ ρ=>ak ρ 1) (ao (λ Z=> .ok (.int 2)) (λ Z=> .ok []))))) cI))
noncomputable def jN:List D->R D:=cT 0 uc
noncomputable def BX:aq->So:=(retS (bin (gB (ao (bin (gB (ao (λ Z=> .ok (.int 0)) (λ Z=> .ok []))) (aH eG (ao (bin (λ ρ=>ak ρ 0) (λ Z=> .ok (.int 0)) cI) (λ Z=> .ok []))) Jy) (λ Z=> .ok []))) (aH eG (ao (λ ρ=>ak ρ 0) (λ Z=> .ok []))) Jy))
noncomputable def ji:List D->R D:=cT 0 BX
noncomputable def Vr:aq->So:=(bh (bL (bin (aH eG (ao (λ ρ=>ak ρ 0) (λ Z=> .ok []))) (λ Z=> .ok (.int 1)) fD) (aK 1)) (retS (bR 1 [1,0] (λ ρ=>((ao (aH eG (ao (λ ρ=>ak ρ 0) (λ Z=> .ok []))) (λ Z=> .ok [])) ρ).bind mW) (aK 0) (λ Z=> .ok true) (aH wH (ao (bin (bin (λ ρ=>ak ρ 2) (aH maxD (ao (bin (λ ρ=>ak ρ 0) (λ Z=> .ok (.int 1)) fD) (ao (λ Z=> .ok (.int 0)) (λ Z=> .ok [])))) cI) (bin (λ ρ=>ak ρ 2) (aH minD (ao (bin (λ ρ=>ak ρ 0) (λ Z=> .ok (.int 1)) dH) (ao (λ ρ=>ak ρ 1) (λ Z=> .ok [])))) cI) fD) (λ Z=> .ok []))))))
noncomputable def oJ:List D->R D:=cT 1 Vr
noncomputable def wR:aq->So:=(bh (bL (bin (λ ρ=>ak ρ 0) (λ ρ=>ak ρ 1) cI) (aK 2)) (bh (bL (bin (λ ρ=>ak ρ 0) (aH maxD (ao (bin (λ ρ=>ak ρ 1) (λ Z=> .ok (.int 1)) fD) (ao (λ Z=> .ok (.int 0)) (λ Z=> .ok [])))) cI) (aK 3)) (bh (bL (bin (aH eG (ao (λ ρ=>ak ρ 2) (λ Z=> .ok []))) (λ Z=> .ok (.int 1)) fD) (aK 4)) (bh (newL (λ Z=> .ok []) 5) (bh (pZ (λ ρ=>((ao (aH (bw oJ 1) (ao (λ ρ=>ak ρ 2) (λ Z=> .ok []))) (λ Z=> .ok [])) ρ).bind yI) (gQ (gR 2 (bO (aK 6) (bO (aK 7) nilG)))) (bh (bL (bin (λ ρ=>ak ρ 7) (aH wH (ao (bin (bin (λ ρ=>ak ρ 3) (λ ρ=>ak ρ 6) cI) (bin (λ ρ=>ak ρ 2) (aH maxD (ao (bin (λ ρ=>ak ρ 6) (λ Z=> .ok (.int 1)) fD) (ao (λ Z=> .ok (.int 0)) (λ Z=> .ok [])))) cI) fD) (λ Z=> .ok []))) dH) (aK 8)) (bh (bL (bin (λ ρ=>ak ρ 7) (aH wH (ao (bin (bin (λ ρ=>ak ρ 3) (λ ρ=>ak ρ 6) cI) (bin (λ ρ=>ak ρ 2) (aH minD (ao (bin (λ ρ=>ak ρ 6) (λ Z=> .ok (.int 1)) dH) (ao (λ ρ=>ak ρ 4) (λ Z=> .ok [])))) cI) fD) (λ Z=> .ok []))) dH) (aK 9)) (yQ 5 (gB (ao (λ ρ=>ak ρ 8) (ao (λ ρ=>ak ρ 7) (ao (λ ρ=>ak ρ 9) (λ Z=> .ok []))))))))) (retS (λ ρ=>ak ρ 5)))))))
noncomputable def kO:List D->R D:=cT 8 wR
noncomputable def Fb:aq->So:=(retS (yP (Bt lG (λ ρ=>ak ρ 0)) (Uj (λ Z=> .ok (.int 1)) (aH eG (ao (λ ρ=>ak ρ 0) (λ Z=> .ok []))) (λ Z=> .ok (.int 20)) Kq Kq)))
noncomputable def ju:List D->R D:=cT 0 Fb
noncomputable def BZ:aq->So:=(retS (yP (Bt HN (λ ρ=>ak ρ 0)) (aiL (Bt Bu (λ ρ=>ak ρ 0)))))
noncomputable def jj:List D->R D:=cT 0 BZ
noncomputable def Fd:aq->So:=(retS (yP (aH (bw jj 1) (ao (λ ρ=>ak ρ 0) (λ Z=> .ok []))) (Uj (λ Z=> .ok (.int 0)) (λ ρ=>ak ρ 0) (λ Z=> .ok (.int 99)) Kq Kq)))
noncomputable def pN:List D->R D:=cT 0 Fd
noncomputable def JH:aq->So:=(retS (yP (aH (bw ju 1) (ao (λ ρ=>ak ρ 0) (λ Z=> .ok []))) (aH p8 (ao (bR 1 [] (eF (λ ρ=>ak ρ 0)) (aK 0) (λ Z=> .ok true) (aH (bw pN 1) (ao (λ ρ=>ak ρ 0) (λ Z=> .ok [])))) (λ Z=> .ok [])))))
noncomputable def qW:List D->R D:=cT 0 JH
noncomputable def wU:aq->So:=(bh (jf (Ea (pW (c7 (aH (bw ju 1) (ao (λ ρ=>ak ρ 0) (λ Z=> .ok []))))) (pW (c7 (aH p8 (ao (bR 1 [] (eF (λ ρ=>ak ρ 0)) (aK 0) (λ Z=> .ok true) (aH (bw qW 1) (ao (λ ρ=>ak ρ 0) (λ Z=> .ok [])))) (λ Z=> .ok [])))))) (retS (λ Z=> .ok (.bl false))) So.nx) (retS (aH p8 (ao (bR 1 [0] (eF (λ ρ=>ak ρ 0)) (aK 0) (λ Z=> .ok true) (bin (aH eG (ao (λ ρ=>ak ρ 0) (λ Z=> .ok []))) (aH eG (ao (bin (λ ρ=>ak ρ 1) (λ Z=> .ok (.int 0)) cI) (λ Z=> .ok []))) qb)) (λ Z=> .ok [])))))
noncomputable def dD:List D->R D:=cT 0 wU
noncomputable def qX:aq->So:=(jf (pW (c7 (aH (bw dD 1) (ao (λ ρ=>ak ρ 0) (λ Z=> .ok []))))) (λ Z=> .bad) So.nx)
noncomputable def eN:List D->R D:=cT 0 qX
noncomputable def Fe:aq->So:=(bh (pY (aH (bw eN 1) (ao (λ ρ=>ak ρ 0) (λ Z=> .ok [])))) (retS (gB (ao (aH eG (ao (bin (λ ρ=>ak ρ 0) (λ Z=> .ok (.int 0)) cI) (λ Z=> .ok []))) (ao (aH eG (ao (λ ρ=>ak ρ 0) (λ Z=> .ok []))) (λ Z=> .ok []))))))
noncomputable def f9:List D->R D:=cT 0 Fe
noncomputable def JK:aq->So:=(bh (bL (aH (bw f9 1) (ao (λ ρ=>ak ρ 0) (λ Z=> .ok []))) (gQ (gR 2 (bO (aK 1) (bO (aK 2) nilG))))) (retS (aH p7 (ao (bR 1 [2,0] (λ ρ=>((ao (λ ρ=>ak ρ 1) (λ Z=> .ok [])) ρ).bind mW) (aK 0) (λ Z=> .ok true) (aH p7 (ao (bR 1 [2,0] (λ ρ=>((ao (λ ρ=>ak ρ 1) (λ Z=> .ok [])) ρ).bind mW) (aK 0) (λ Z=> .ok true) (bin (bin (λ ρ=>ak ρ 1) (λ ρ=>ak ρ 0) cI) (λ ρ=>ak ρ 2) cI)) (λ Z=> .ok [])))) (λ Z=> .ok [])))))
noncomputable def qY:List D->R D:=cT 2 JK
noncomputable def JL:aq->So:=(bh (bL (aH (bw f9 1) (ao (λ ρ=>ak ρ 0) (λ Z=> .ok []))) (gQ (gR 2 (bO (aK 1) (bO (aK 2) nilG))))) (bh (bL (bR 1 [] (eF (λ ρ=>ak ρ 0)) (aK 0) (λ Z=> .ok true) (aH (bw oJ 1) (ao (λ ρ=>ak ρ 0) (λ Z=> .ok [])))) (aK 3)) (bh (bL (bR 1 [] (eF (aH (bw qY 1) (ao (λ ρ=>ak ρ 0) (λ Z=> .ok [])))) (aK 0) (λ Z=> .ok true) (aH (bw oJ 1) (ao (λ ρ=>ak ρ 0) (λ Z=> .ok [])))) (aK 4)) (retS (aH p7 (ao (bR 1 [3,4,1] (λ ρ=>((ao (λ ρ=>ak ρ 2) (λ Z=> .ok [])) ρ).bind mW) (aK 0) (λ Z=> .ok true) (aH p7 (ao (bR 1 [1,2,0] (λ ρ=>((ao (λ ρ=>ak ρ 3) (λ Z=> .ok [])) ρ).bind mW) (aK 0) (λ Z=> .ok true) (bin (bin (bin (λ ρ=>ak ρ 1) (λ ρ=>ak ρ 3) cI) (λ ρ=>ak ρ 0) cI) (bin (bin (λ ρ=>ak ρ 2) (λ ρ=>ak ρ 0) cI) (λ ρ=>ak ρ 3) cI) dH)) (λ Z=> .ok [])))) (λ Z=> .ok [])))))))
noncomputable def qZ:List D->R D:=cT 4 JL
noncomputable def Oj:aq->So:=(bh (jf (c7 (bin (λ ρ=>ak ρ 1) (λ Z=> .ok (.str "worth")) qb)) (retS (bR 1 [] (eF (aH (bw qZ 1) (ao (λ ρ=>ak ρ 0) (λ Z=> .ok [])))) (aK 0) (λ Z=> .ok true) (bR 1 [] (eF (λ ρ=>ak ρ 0)) (aK 0) (λ Z=> .ok true) (gB (ao (λ ρ=>ak ρ 0) (ao (λ ρ=>ak ρ 0) (ao (λ ρ=>ak ρ 0) (λ Z=> .ok [])))))))) So.nx) (retS (bR 1 [0] (λ ρ=>((ao (aH eG (ao (λ ρ=>ak ρ 0) (λ Z=> .ok []))) (λ Z=> .ok [])) ρ).bind mW) (aK 0) (λ Z=> .ok true) (aH (bw kO 2) (ao (λ ρ=>ak ρ 1) (ao (λ ρ=>ak ρ 0) (λ Z=> .ok [])))))))
noncomputable def jO:List D->R D:=cT 0 Oj
noncomputable def ud:aq->So:=(bh (jf (Ea (pW (c7 (Bt Bv (λ ρ=>ak ρ 0)))) (Ea (pW (Og (λ ρ=>ak ρ 0))) (pW (c7 (aH p8 (ao (bR 1 [] (eF (λ ρ=>ak ρ 0)) (aK 0) (λ Z=> .ok true) (aH (bw dD 1) (ao (λ ρ=>ak ρ 0) (λ Z=> .ok [])))) (λ Z=> .ok []))))))) (retS (λ Z=> .ok (.bl false))) So.nx) (retS (aH p8 (ao (bR 1 [0] (eF (λ ρ=>ak ρ 0)) (aK 0) (λ Z=> .ok true) (bin (aH (bw f9 1) (ao (λ ρ=>ak ρ 0) (λ Z=> .ok []))) (aH (bw f9 1) (ao (bin (λ ρ=>ak ρ 1) (λ Z=> .ok (.int 0)) cI) (λ Z=> .ok []))) qb)) (λ Z=> .ok [])))))
noncomputable def cW:List D->R D:=cT 0 ud
noncomputable def Fg:aq->So:=(retS (bin (bin (λ ρ=>ak ρ 0) (λ ρ=>ak ρ 2) cI) (bin (bin (λ ρ=>ak ρ 1) (λ ρ=>ak ρ 2) fD) (λ Z=> .ok (.int 1)) dH) cI))
noncomputable def iR:List D->R D:=cT 0 Fg
noncomputable def Vs:aq->So:=(retS (aH aaY (ao (aH maxD (ao (bin (λ ρ=>ak ρ 0) (λ Z=> .ok (.int 1)) fD) (ao (λ Z=> .ok (.int 0)) (λ Z=> .ok [])))) (ao (aH minD (ao (bin (λ ρ=>ak ρ 0) (λ Z=> .ok (.int 2)) dH) (ao (λ ρ=>ak ρ 1) (λ Z=> .ok [])))) (λ Z=> .ok [])))))
noncomputable def Aq:List D->R D:=cT 0 Vs
noncomputable def onB:aq->So:=(bh (bL (aH (bw iR 3) (ao (λ ρ=>ak ρ 1) (ao (λ ρ=>ak ρ 2) (ao (λ ρ=>ak ρ 4) (λ Z=> .ok []))))) (aK 5)) (JG 3 (bR 3 [5] (eF (bin (λ ρ=>ak ρ 0) (λ ρ=>ak ρ 4) cI)) (gQ (gR 3 (bO (aK 0) (bO (aK 1) (bO (aK 2) nilG))))) (λ Z=> .ok true) (gB (ao (λ ρ=>ak ρ 0) (ao (bin (λ ρ=>ak ρ 1) (λ ρ=>ak ρ 3) dH) (ao (λ ρ=>ak ρ 2) (λ Z=> .ok []))))))))
noncomputable def JM:aq->So:=(bh (newL (λ Z=> .ok []) 3) (bh (pZ (eF (aH (bw Aq 2) (ao (λ ρ=>ak ρ 2) (ao (aH eG (ao (λ ρ=>ak ρ 0) (λ Z=> .ok []))) (λ Z=> .ok []))))) (aK 4) onB) (retS (λ ρ=>ak ρ 3))))
noncomputable def q8:List D->R D:=cT 3 JM
noncomputable def agL (aG:Nat) (GG:List D->R D):aq->So:=(jf (c7 (bin (λ ρ=>ak ρ 8) (λ Z=> .ok (.int 1)) qb)) (bL (jc (λ Z=> .ok [])) (aK 9)) (jf (pW (Og (λ ρ=>ak ρ 4))) (bL (Ii 3 aG GG 2 (ao (λ ρ=>ak ρ 7) (ao (jc (ao (gB (ao (λ Z=> .ok (.int 0)) (ao (λ Z=> .ok (.int 0)) (ao (λ ρ=>ak ρ 2) (λ Z=> .ok []))))) (λ Z=> .ok []))) (λ Z=> .ok [])))) (aK 9)) (bL (Ii 3 aG GG 2 (ao (λ ρ=>ak ρ 7) (ao (aH (bw q8 3) (ao (ixO 4 (Ek (λ Z=> .ok (.int 1)))) (ao (bin (λ ρ=>ak ρ 0) (bin (λ ρ=>ak ρ 5) (λ Z=> .ok (.int 1)) dH) cI) (ao (λ ρ=>ak ρ 7) (λ Z=> .ok []))))) (λ Z=> .ok [])))) (aK 9))))
noncomputable def agM:aq->So:=(bh (bL (Ks (c7 (bin (λ ρ=>ak ρ 8) (λ Z=> .ok (.int 2)) qb)) (λ Z=> .ok (.int 1)) (λ Z=> .ok (.int 0))) (aK 10)) (yQ 6 (bR 3 [10] (eF (λ ρ=>ak ρ 9)) (gQ (gR 3 (bO (aK 0) (bO (aK 1) (bO (aK 2) nilG))))) (λ Z=> .ok true) (gB (ao (bin (λ ρ=>ak ρ 0) (λ ρ=>ak ρ 3) fD) (ao (λ ρ=>ak ρ 1) (ao (λ ρ=>ak ρ 2) (λ Z=> .ok []))))))))
noncomputable def inW (aG:Nat) (GG:List D->R D):aq->So:=(bh (agL aG GG) agM)
noncomputable def afG (aG:Nat) (GG:List D->R D):aq->So:=(bh (newL (λ Z=> .ok []) 6) (bh (pZ (λ ρ=>((ao (bin (λ ρ=>ak ρ 1) (λ ρ=>ak ρ 5) cI) (λ Z=> .ok [])) ρ).bind yI) (gQ (gR 2 (bO (aK 7) (bO (aK 8) nilG)))) (inW aG GG)) (Oa 4 6)))
noncomputable def Ol (aG:Nat) (GG:List D->R D):aq->So:=(bh (newL (λ Z=> .ok []) 4) (bh (pZ (λ ρ=>((ao (aH eG (ao (λ ρ=>ak ρ 1) (λ Z=> .ok []))) (λ Z=> .ok [])) ρ).bind Vf) (aK 5) (afG aG GG)) (retS (T9 (λ ρ=>ak ρ 4)))))
noncomputable def vX (aG:Nat) (GG:List D->R D) (ds:List D):R D:=j7 7 (Ol aG GG) (ds.map .val++[.obj (.fn aG)])
noncomputable def Fi:aq->So:=(retS (bR 3 [0] (eF (mJ (aH wN (ao (λ ρ=>ak ρ 1) (λ Z=> .ok []))) (λ Z=> .ok none) (λ ρ=>((λ ρ=>ak ρ 2) ρ).bind Q7))) (gQ (gR 3 (bO (aK 0) (bO (aK 1) (bO (aK 2) nilG))))) (λ Z=> .ok true) (gB (ao (λ ρ=>ak ρ 0) (ao (λ ρ=>ak ρ 1) (ao (bin (gB (ao (λ ρ=>ak ρ 3) (λ Z=> .ok []))) (λ ρ=>ak ρ 2) dH) (λ Z=> .ok [])))))))
noncomputable def fQ (my:Int) (ds:List D):R D:=j7 0 Fi (ds.map .val++[.val (.int my)])
noncomputable def yV:aq->So:=(T8 3 2 ((λ ρ=>ak ρ 0):aq->R D) ((λ ρ=>ak ρ 1):aq->R D) ((gB (λ Z=> .ok [])):aq->R D) vX fQ)
noncomputable def oK (ds:List D):R D:=j7 1 yV (ds.map .val)
noncomputable def Ca:aq->So:=(bh (newL (λ Z=> .ok []) 2) (bh (pZ (λ ρ=>((ao (bin (λ ρ=>ak ρ 1) (λ Z=> .ok (.int 0)) cI) (λ Z=> .ok [])) ρ).bind yI) (gQ (gR 2 (bO (aK 3) (bO (aK 4) nilG)))) (bh (bL (aH (bw iR 3) (ao (bin (λ ρ=>ak ρ 0) (λ Z=> .ok (.int 0)) cI) (ao (λ ρ=>ak ρ 3) (ao (λ ρ=>ak ρ 3) (λ Z=> .ok []))))) (aK 5)) (JG 2 (bR 3 [5] (eF (λ ρ=>ak ρ 4)) (gQ (gR 3 (bO (aK 0) (bO (aK 1) (bO (aK 2) nilG))))) (λ Z=> .ok true) (gB (ao (λ ρ=>ak ρ 0) (ao (bin (λ ρ=>ak ρ 1) (λ ρ=>ak ρ 3) dH) (ao (λ ρ=>ak ρ 2) (λ Z=> .ok []))))))))) (retS (λ ρ=>ak ρ 2))))
noncomputable def nP:List D->R D:=cT 4 Ca
noncomputable def uf:aq->So:=(retS (mJ (aH wN (ao (aH (bw nP 2) (ao (λ ρ=>ak ρ 0) (ao (aH (bw oK 3) (ao (λ ρ=>ak ρ 0) (ao (λ ρ=>ak ρ 1) (ao (λ ρ=>ak ρ 2) (λ Z=> .ok []))))) (λ Z=> .ok [])))) (λ Z=> .ok []))) (λ Z=> .ok none) (λ ρ=>((λ ρ=>ak ρ 2) ρ).bind Q7)))
noncomputable def lZ (ds:List D):R D:=j7 0 uf (ds.map .val)
noncomputable def yW:aq->So:=(bh (bL (aH (bw lZ 3) (ao (λ ρ=>ak ρ 0) (ao (λ ρ=>ak ρ 1) (ao (λ Z=> .ok (.int 1)) (λ Z=> .ok []))))) (aK 2)) (bh (jf (pW (Og (λ ρ=>ak ρ 2))) (retS (λ Z=> .ok .non)) So.nx) (bh (bL (bin (λ ρ=>ak ρ 2) (λ Z=> .ok (.int 0)) cI) (gQ (gR 3 (bO (aK 3) (bO (aK 4) (bO (aK 5) nilG)))))) (retS (gB (ao (λ ρ=>ak ρ 4) (ao (λ ρ=>ak ρ 5) (λ Z=> .ok []))))))))
noncomputable def iz (ds:List D):R D:=j7 4 yW (ds.map .val)
noncomputable def ug:aq->So:=(jf (c7 (bin (λ ρ=>ak ρ 0) (λ Z=> .ok (.tup [.str "worth",.str "joins"])) BW)) (λ ρ=> .ex "NoManner" ρ) So.nx)
noncomputable def dI:List D->R D:=cT 0 ug
noncomputable def Fj:aq->So:=(retS (bR 2 [] (λ ρ=>((ao (λ ρ=>ak ρ 0) (ao (λ ρ=>ak ρ 1) (λ Z=> .ok []))) ρ).bind zip2) (gQ (gR 2 (bO (aK 0) (bO (aK 1) nilG)))) (λ Z=> .ok true) (bR 2 [] (λ ρ=>((ao (λ ρ=>ak ρ 0) (ao (λ ρ=>ak ρ 1) (λ Z=> .ok []))) ρ).bind zip2) (gQ (gR 2 (bO (aK 0) (bO (aK 1) nilG)))) (λ Z=> .ok true) (aH p7 (ao (bR 2 [] (λ ρ=>((ao (λ ρ=>ak ρ 0) (ao (λ ρ=>ak ρ 1) (λ Z=> .ok []))) ρ).bind zip2) (gQ (gR 2 (bO (aK 0) (bO (aK 1) nilG)))) (λ Z=> .ok true) (bin (λ ρ=>ak ρ 0) (λ ρ=>ak ρ 1) dH)) (λ Z=> .ok []))))))
noncomputable def pO:List D->R D:=cT 0 Fj
noncomputable def smB:aq->So:=(bL (aH (bw pO 2) (ao (λ ρ=>ak ρ 2) (ao (aH (bw jO 2) (ao (λ ρ=>ak ρ 3) (ao (λ ρ=>ak ρ 1) (λ Z=> .ok [])))) (λ Z=> .ok [])))) (aK 2))
noncomputable def uh:aq->So:=(bh (jf (pW (c7 (aH (bw cW 1) (ao (λ ρ=>ak ρ 0) (λ Z=> .ok []))))) (λ ρ=> .ex "NoPictures" ρ) So.nx) (bh (pY (oH dI 1 0 [] (ao (λ ρ=>ak ρ 1) (λ Z=> .ok [])) (λ Z=> .ok []))) (bh (bL (aH (bw jO 2) (ao (bin (λ ρ=>ak ρ 0) (λ Z=> .ok (.int 0)) cI) (ao (λ ρ=>ak ρ 1) (λ Z=> .ok [])))) (aK 2)) (bh (pZ (eF (mJ (λ ρ=>ak ρ 0) (λ ρ=>(((λ Z=> .ok (.int 1)):aq->R D) ρ).bind Q7) (λ Z=> .ok none))) (aK 3) smB) (retS (bin (aH (bw iz 2) (ao (λ ρ=>ak ρ 2) (ao (aH (bw ji 1) (ao (bin (λ ρ=>ak ρ 0) (λ Z=> .ok (.int 0)) cI) (λ Z=> .ok []))) (λ Z=> .ok [])))) (λ Z=> .ok (.int 1)) cI))))))
noncomputable def cA:List D->R D:=cT 2 uh
noncomputable def Fl:aq->So:=(bh (U6 j9 "SeamError" 2 (pY (oH cA 2 1 [.inl 0] (ao (λ ρ=>ak ρ 0) (λ Z=> .ok [])) (ao (λ ρ=>ak ρ 1) (λ Z=> .ok [])))) (retS (jc (ao (Ih j9 2 "NoPictures") (ao (Ih j9 2 "NoManner") (λ Z=> .ok [])))))) (retS (jc (λ Z=> .ok []))))
noncomputable def lJ (ds:List D):R D:=j7 1 Fl (ds.map .val)
noncomputable def q9:aq->So:=(bh (Ux 4 5 (bin (jc (ao (λ Z=> .ok (.int 2)) (ao (λ Z=> .ok (.int 5)) (ao (λ Z=> .ok (.int 100)) (ao (λ Z=> .ok (.int 10)) (λ Z=> .ok [])))))) (aH (bw cJ 3) (ao (λ ρ=>ak ρ 0) (ao (λ ρ=>ak ρ 1) (ao (λ Z=> .ok (.int 4)) (λ Z=> .ok []))))) cI) (λ Z=> .ok [])) (bh (pZ (λ ρ=>((ao (λ ρ=>ak ρ 3) (λ Z=> .ok [])) ρ).bind mW) (aK 6) (yQ 5 (aH p7 (ao (bR 1 [1,2,4,0,6] (λ ρ=>((ao (λ ρ=>ak ρ 2) (λ Z=> .ok [])) ρ).bind mW) (aK 0) (λ Z=> .ok true) (aH (bw cJ 3) (ao (λ ρ=>ak ρ 4) (ao (bin (bin (bin (λ ρ=>ak ρ 1) (λ Z=> .ok (.int 1)) jg) (bin (λ ρ=>ak ρ 2) (λ ρ=>ak ρ 5) jH) jg) (λ ρ=>ak ρ 0) jg) (ao (λ ρ=>ak ρ 3) (λ Z=> .ok [])))))) (λ Z=> .ok []))))) (retS (aH p7 (ao (λ ρ=>ak ρ 5) (λ Z=> .ok []))))))
noncomputable def gZ:List D->R D:=cT 3 q9
noncomputable def wyI:aq->So:=(bL (bin (λ ρ=>ak ρ 4) (bR 1 [0,5] (eF (gB (ao (bin (bin (λ ρ=>ak ρ 5) (Ek (λ Z=> .ok (.int 1))) cI) (λ Z=> .ok (.int 1)) fD) (ao (bin (λ ρ=>ak ρ 5) (Ek (λ Z=> .ok (.int 1))) cI) (ao (bin (bin (λ ρ=>ak ρ 5) (Ek (λ Z=> .ok (.int 1))) cI) (λ Z=> .ok (.int 1)) dH) (λ Z=> .ok [])))))) (aK 0) (pB (c7 (bin (λ Z=> .ok (.int 0)) (λ ρ=>ak ρ 0) Kq)) (c7 (bin (λ ρ=>ak ρ 0) (λ ρ=>ak ρ 1) ltI))) (bin (λ ρ=>ak ρ 2) (gB (ao (λ ρ=>ak ρ 0) (λ Z=> .ok []))) dH)) dH) (aK 4))
noncomputable def wyO:aq->So:=(bh (bL (jc (λ Z=> .ok [])) (aK 4)) (bh (pZ (eF (λ ρ=>ak ρ 2)) (aK 5) wyI) (bL (λ ρ=>ak ρ 4) (aK 2))))
noncomputable def yX:aq->So:=(bh (bL (bR 1 [] (λ ρ=>((ao (λ ρ=>ak ρ 0) (λ Z=> .ok [])) ρ).bind mW) (aK 0) (λ Z=> .ok true) (gB (ao (λ ρ=>ak ρ 0) (λ Z=> .ok [])))) (aK 2)) (bh (pZ (λ ρ=>((ao (bin (λ ρ=>ak ρ 1) (λ Z=> .ok (.int 1)) fD) (λ Z=> .ok [])) ρ).bind mW) (aK 3) wyO) (retS (λ ρ=>ak ρ 2))))
noncomputable def mK:List D->R D:=cT 4 yX
noncomputable def Fo:aq->So:=(retS (yP (aH (bw jj 1) (ao (λ ρ=>ak ρ 0) (λ Z=> .ok []))) (Uj (λ Z=> .ok (.int 0)) (λ ρ=>ak ρ 0) (λ Z=> .ok (.int 2)) Kq Kq)))
noncomputable def tO:List D->R D:=cT 0 Fo
noncomputable def rm:aq->So:=(retS (yP (Bt lG (λ ρ=>ak ρ 0)) (yP (bin (aH eG (ao (λ ρ=>ak ρ 0) (λ Z=> .ok []))) (λ ρ=>ak ρ 1) qb) (aH p8 (ao (bR 1 [] (eF (λ ρ=>ak ρ 0)) (aK 0) (λ Z=> .ok true) (aH (bw tO 1) (ao (λ ρ=>ak ρ 0) (λ Z=> .ok [])))) (λ Z=> .ok []))))))
noncomputable def kW:List D->R D:=cT 0 rm
noncomputable def Cd:aq->So:=(bh (jf (Ea (pW (c7 (Bt lG (λ ρ=>ak ρ 0)))) (c7 (bin (aH eG (ao (λ ρ=>ak ρ 0) (λ Z=> .ok []))) (aH eG (ao (λ ρ=>ak ρ 1) (λ Z=> .ok []))) oF))) (retS (λ Z=> .ok (.bl false))) So.nx) (retS (aH p8 (ao (bR 1 [1] (eF (λ ρ=>ak ρ 0)) (aK 0) (λ Z=> .ok true) (aH (bw kW 2) (ao (λ ρ=>ak ρ 0) (ao (aH eG (ao (bin (λ ρ=>ak ρ 1) (λ Z=> .ok (.int 0)) cI) (λ Z=> .ok []))) (λ Z=> .ok []))))) (λ Z=> .ok [])))))
noncomputable def qp:List D->R D:=cT 0 Cd
noncomputable def wV:aq->So:=(bh (jf (c7 (bin (λ ρ=>ak ρ 0) (λ Z=> .ok .non) isD)) (retS (aH (bw ji 1) (ao (λ ρ=>ak ρ 1) (λ Z=> .ok [])))) So.nx) (bh (jf (pW (c7 (aH (bw qp 2) (ao (λ ρ=>ak ρ 0) (ao (λ ρ=>ak ρ 1) (λ Z=> .ok [])))))) (λ Z=> .bad) So.nx) (retS (λ ρ=>ak ρ 0))))
noncomputable def iT:List D->R D:=cT 0 wV
noncomputable def Ce:aq->So:=(bh (pY (aH (bw eN 1) (ao (λ ρ=>ak ρ 0) (λ Z=> .ok [])))) (bh (pY (oH dI 1 0 [] (ao (λ ρ=>ak ρ 1) (λ Z=> .ok [])) (λ Z=> .ok []))) (bh (bL (aH (bw iT 2) (ao (λ ρ=>ak ρ 2) (ao (λ ρ=>ak ρ 0) (λ Z=> .ok [])))) (aK 3)) (retS (gB (ao (aH (bw jO 2) (ao (λ ρ=>ak ρ 0) (ao (λ ρ=>ak ρ 1) (λ Z=> .ok [])))) (ao (λ ρ=>ak ρ 3) (λ Z=> .ok []))))))))
noncomputable def qu (ds:List D):R D:=j7 1 Ce (ds.map .val)
noncomputable def wW:aq->So:=(bh (bL (aH (bw qu 3) (ao (λ ρ=>ak ρ 0) (ao (λ ρ=>ak ρ 1) (ao (λ ρ=>ak ρ 2) (λ Z=> .ok []))))) (gQ (gR 2 (bO (aK 3) (bO (aK 4) nilG))))) (bh (bL (aH (bw iz 2) (ao (λ ρ=>ak ρ 3) (ao (λ ρ=>ak ρ 4) (λ Z=> .ok [])))) (aK 5)) (bh (jf (c7 (bin (λ ρ=>ak ρ 5) (λ Z=> .ok .non) isD)) (retS (λ Z=> .ok .non)) So.nx) (retS (bin (λ ρ=>ak ρ 5) (λ Z=> .ok (.int 1)) cI)))))
noncomputable def kY (ds:List D):R D:=j7 3 wW (ds.map .val)
noncomputable def foB:aq->So:=(bh (bL (gB (ao (aH Js (ao (bR 1 [3,7] (eF (λ ρ=>ak ρ 4)) (aK 0) (λ Z=> .ok true) (aH (bw kh 3) (ao (λ ρ=>ak ρ 0) (ao (λ ρ=>ak ρ 1) (ao (λ ρ=>ak ρ 2) (λ Z=> .ok [])))))) (λ Z=> .ok []))) (ao (λ ρ=>ak ρ 7) (λ Z=> .ok [])))) (aK 8)) (bL (Ks (Ea (c7 (bin (λ ρ=>ak ρ 6) (λ Z=> .ok .non) isD)) (c7 (bin (λ ρ=>ak ρ 8) (λ ρ=>ak ρ 6) Vq))) (λ ρ=>ak ρ 8) (λ ρ=>ak ρ 6)) (aK 6)))
noncomputable def lwT:aq->So:=(bh (bL (aH afe (ao (λ ρ=>ak ρ 4) (λ Z=> .ok []))) (aK 5)) (bh (bL (λ Z=> .ok .non) (aK 6)) (bh (pZ (eF (aH (bw mK 2) (ao (λ ρ=>ak ρ 1) (ao (λ ρ=>ak ρ 2) (λ Z=> .ok []))))) (aK 7) foB) (bh (jf (Ea (c7 (bin (oH cA 2 1 [.inl 0] (ao (λ ρ=>ak ρ 4) (λ Z=> .ok [])) (ao (λ ρ=>ak ρ 3) (λ Z=> .ok []))) (bin (λ ρ=>ak ρ 6) (λ Z=> .ok (.int 1)) cI) oF)) (c7 (bin (λ ρ=>ak ρ 4) (λ ρ=>ak ρ 5) oF))) (retS (λ Z=> .ok (.bl false))) So.nx) (bh (bL (bin (λ ρ=>ak ρ 4) (λ Z=> .ok (.int 0)) cI) (aK 9)) (bh (jf (c7 (bin (oH cA 2 1 [.inl 0] (ao (jc (ao (λ ρ=>ak ρ 9) (λ Z=> .ok []))) (λ Z=> .ok [])) (ao (λ ρ=>ak ρ 3) (λ Z=> .ok []))) (HY kY 3 1 [.inl 0,.inr .non] (ao (λ ρ=>ak ρ 9) (λ Z=> .ok [])) (ao (λ ρ=>ak ρ 3) (λ Z=> .ok []))) oF)) (retS (λ Z=> .ok (.bl false))) So.nx) (bh (jf (c7 (bin (oH cA 2 0 [.inr (.str "worth")] (ao (bin (jc (ao (λ ρ=>ak ρ 9) (λ Z=> .ok []))) (λ Z=> .ok (.int 3)) mulL) (λ Z=> .ok [])) (λ Z=> .ok [])) (HY kY 3 0 [.inr (.str "worth"),.inr .non] (ao (λ ρ=>ak ρ 9) (λ Z=> .ok [])) (λ Z=> .ok [])) oF)) (retS (λ Z=> .ok (.bl false))) So.nx) (bh (bL (jc (ao (λ Z=> .ok .non) (ao (jc (λ Z=> .ok [])) (ao (aH p7 (ao (λ ρ=>ak ρ 4) (λ Z=> .ok []))) (ao (bin (λ ρ=>ak ρ 4) (jc (ao (λ Z=> .ok .non) (λ Z=> .ok []))) dH) (ao (bin (λ ρ=>ak ρ 4) (jc (ao (bin (λ ρ=>ak ρ 9) (wK (λ ρ=>ak ρ 9) (λ Z=> .ok none) (λ ρ=>(((λ Z=> .ok (.int 1)):aq->R D) ρ).bind Q7)) dH) (λ Z=> .ok []))) dH) (λ Z=> .ok []))))))) (aK 10)) (bh (bL (bin (λ ρ=>ak ρ 10) (jc (ao (jc (ao (λ ρ=>ak ρ 9) (ao (aH p7 (ao (bR 1 [] (eF (λ ρ=>ak ρ 9)) (aK 0) (λ Z=> .ok true) (bin (λ ρ=>ak ρ 0) (gB (ao (λ Z=> .ok (.int 0)) (λ Z=> .ok []))) dH)) (λ Z=> .ok []))) (λ Z=> .ok [])))) (ao (λ ρ=>ak ρ 9) (λ Z=> .ok [])))) dH) (aK 10)) (bh (jf (c7 (bin (bR 1 [] (eF (λ ρ=>ak ρ 10)) (aK 0) (c7 (bin (aH (bw lJ 2) (ao (λ ρ=>ak ρ 0) (ao (λ Z=> .ok (.str "plain")) (λ Z=> .ok [])))) (jc (ao (λ Z=> .ok (.bl true)) (ao (λ Z=> .ok (.bl false)) (λ Z=> .ok [])))) oF)) (λ ρ=>ak ρ 0)) (jc (λ Z=> .ok [])) oF)) (retS (λ Z=> .ok (.bl false))) So.nx) (bh (bL (jc (ao (λ Z=> .ok (.str "plain")) (ao (λ Z=> .ok .non) (ao (λ Z=> .ok (.int 0)) (ao (gB (ao (λ Z=> .ok (.str "worth")) (λ Z=> .ok []))) (ao (λ Z=> .ok (.str "")) (λ Z=> .ok []))))))) (aK 11)) (retS (bin (bR 1 [4] (eF (λ ρ=>ak ρ 11)) (aK 0) (c7 (bin (aH (bw lJ 2) (ao (λ ρ=>ak ρ 1) (ao (λ ρ=>ak ρ 0) (λ Z=> .ok [])))) (jc (ao (λ Z=> .ok (.bl false)) (ao (λ Z=> .ok (.bl true)) (λ Z=> .ok [])))) oF)) (λ ρ=>ak ρ 0)) (jc (λ Z=> .ok [])) qb)))))))))))))
noncomputable def aa0:aq->So:=(bh (bL (gB (ao (bin (λ Z=> .ok (.int 1)) (aH (bw cJ 3) (ao (λ ρ=>ak ρ 0) (ao (λ Z=> .ok (.int 0)) (ao (λ Z=> .ok (.int 4)) (λ Z=> .ok []))))) dH) (ao (bin (λ Z=> .ok (.int 1)) (aH (bw cJ 3) (ao (λ ρ=>ak ρ 0) (ao (λ Z=> .ok (.int 1)) (ao (λ Z=> .ok (.int 3)) (λ Z=> .ok []))))) dH) (ao (aH (bw jN 2) (ao (λ ρ=>ak ρ 0) (ao (λ Z=> .ok (.int 2)) (λ Z=> .ok [])))) (λ Z=> .ok []))))) (gQ (gR 3 (bO (aK 1) (bO (aK 2) (bO (aK 3) nilG)))))) (bh (bL (bR 1 [1,0,2] (λ ρ=>((ao (bin (λ Z=> .ok (.int 1)) (aH (bw cJ 3) (ao (λ ρ=>ak ρ 0) (ao (λ Z=> .ok (.int 3)) (ao (λ Z=> .ok (.int 3)) (λ Z=> .ok []))))) dH) (λ Z=> .ok [])) ρ).bind mW) (aK 0) (λ Z=> .ok true) (aH (bw gZ 4) (ao (λ ρ=>ak ρ 2) (ao (bin (λ Z=> .ok (.int 10)) (bin (λ Z=> .ok (.int 30)) (λ ρ=>ak ρ 0) Jy) dH) (ao (λ ρ=>ak ρ 1) (ao (λ ρ=>ak ρ 3) (λ Z=> .ok []))))))) (aK 4)) lwT))
noncomputable def K9 (ds:List D):R D:=j7 11 aa0 (ds.map .val)
end K8
namespace K8
open PySem PySem.Spec L2 Pu
noncomputable def row (w:Nat) (f:Nat->Int):D:= .tup ((List.range w).map λ x=> .int (f x))
noncomputable def bN (w h:Nat) (f:Nat->Nat->Int):D:= .tup ((List.range h).map λ y=>row w (f y))
structure Ok (w h:Nat) (f:Nat->Nat->Int):Prop where
 w1:1<=w
 w2:w<=20
 h1:1<=h
 h2:h<=20
 c:∀y < h,∀x < w,0<=f y x/\f y x<=99
theorem La {i j:Int} (h:i<=j):Kq (.int i) (.int j)= .ok (.bl true):=by
 show R.ok (D.bl (decide (i<=j)))=_
 rw[decide_eq_true h]
theorem Lb {ds:List D} (h1:1<=ds.length) (h2:ds.length<=20):ju [.tup ds]= .ok (.bl true):=
 cL (bM (Uz rfl (adg rfl (bC (aB rfl) rfl) (La (by exact Int.ofNat_lt.mpr h1)) rfl (La (by exact Int.ofNat_le.mpr h2)))))
theorem X7 {i:Int}:jj [.int i]= .ok (.bl true):=rfl
theorem aa1 {i:Int} (h0:0<=i) (h1:i<=99):pN [.int i]= .ok (.bl true):=by
 exact cL (bM (Uz (bH (aB rfl) X7) (adg rfl rfl (La h0) rfl (La h1))))
theorem adJ {w:Nat} {f:Nat->Int} (h1:1<=w) (h2:w<=20) (hc:∀x < w,0<=f x/\f x<=99):qW [row w f]= .ok (.bl true):=by
 refine cL (bM (Uz (bH (aB rfl) (Lb (by simpa using h1) (by simpa using h2))) (bC (aB (cj (c:=λ x=> .int (f x)) (h:=λ Z=> .bl true) (l:=List.range w) (nO rfl) (by rw[z2d];exact mR h2) λ x hx=>?_)) vW)))
 obtain⟨a,b⟩:=hc x (z2e hx)
 exact cM rfl (bH (aB rfl) (aa1 a b))
section
variable {w h:Nat} {f:Nat->Nat->Int}
theorem o8 (o:Ok w h f):dD [bN w h f]= .ok (.bl true):=by
 have e1:ju [bN w h f]= .ok (.bl true):=Lb (by simpa using o.h1) (by simpa using o.h2)
 refine cL (aV (dB (m8 (dY (bf (bH (aB rfl) e1))) (dY (bf (bC (aB (cj (c:=λ y=>row w (f y)) (h:=λ Z=> .bl true) (l:=List.range h) (nO rfl) (by rw[z2d];have:=o.h2;exact mR this) λ y hy=>?_)) vW)))) rfl) (bM (bC (aB (cj (c:=λ y=>row w (f y)) (h:=λ Z=> .bl true) (l:=List.range h) (nO rfl) (by rw[z2d];have:=o.h2;exact mR this) λ y hy=>?_)) vW)))
 ·exact cM rfl (bH (aB rfl) (adJ o.w1 o.w2 (o.c y (z2e hy))))
 ·refine cM rfl (au (bC (aB rfl) rfl) (bC (aB (au rfl rfl (o7 (i:=0) (d:=row w (f 0)) ?_))) rfl) (Uy ?_ ?_))
  ·rw[z2b,List.getElem?_range o.h1];rfl
  ·simp
  ·simp[jF,jG,vI,vJ,vK,vL]
theorem Z9 (o:Ok w h f):eN [bN w h f]= .ok .non:=aaL (dB (dY (bf (bH (aB rfl) (o8 o)))) rfl)
theorem size_eq (o:Ok w h f):f9 [bN w h f]= .ok (.tup [.int w,.int h]):=by
 refine cL (aV (HW (bH (aB rfl) (Z9 o))) (bM (fK (aF (bC (aB (au rfl rfl (o7 (i:=0) (d:=row w (f 0)) ?_))) ?_) (aB (bC (aB rfl) ?_))))))
 ·rw[z2b,List.getElem?_range o.h1];rfl
 ·simp[row,Ai,vR]
 ·simp[bN,Ai,vR]
theorem adK (o:Ok w h f):qY [bN w h f]= .ok (bN h w λ y x=>f x y):=by
 refine cL (aV (bB (bH (aB rfl) (size_eq o)) rfl) (bM (bC (aB (cj (c:=λ (x:Nat)=> .int (x:Int)) (h:=λ x=>row h λ y=>f y x) (l:=List.range w) (m7 (aB rfl) (by have:=o.w2;exact Hw this)) (by rw[z2d];have:=o.w2;exact mR this) λ x hx=>?_)) rfl)))
 refine cM rfl (bC (aB (cj (c:=λ (y:Nat)=> .int (y:Int)) (h:=λ y=> .int (f y x)) (l:=List.range h) (m7 (aB rfl) (by have:=o.h2;exact Hw this)) (by rw[z2d];have:=o.h2;exact mR this) λ y hy=>?_)) rfl)
 refine cM rfl (au (au rfl rfl (o7 (i:=y) (d:=row w (f y)) ?_)) rfl (o7 (i:=x) ?_))
 ·rw[z2b,List.getElem?_range (z2e hy)];rfl
 ·rw[z2b,List.getElem?_range (z2e hx)];rfl
end
noncomputable def afH:aq->So:=(yQ 5 (aH p7 (ao (bR 1 [1,2,4,0,6] (λ ρ=>((ao (λ ρ=>ak ρ 2) (λ Z=> .ok [])) ρ).bind mW) (aK 0) (λ Z=> .ok true) (aH (bw cJ 3) (ao (λ ρ=>ak ρ 4) (ao (bin (bin (bin (λ ρ=>ak ρ 1) (λ Z=> .ok (.int 1)) jg) (bin (λ ρ=>ak ρ 2) (λ ρ=>ak ρ 5) jH) jg) (λ ρ=>ak ρ 0) jg) (ao (λ ρ=>ak ρ 3) (λ Z=> .ok [])))))) (λ Z=> .ok []))))
section
variable {ns:List Int} {a m:Int} {w h:Nat}
noncomputable def vA (d:D):Option Ent:=some (.val d)
theorem ajm (hns:ns.length<=1000000) (ha:0<=a) (hm:0 < m) (hw:w<=20) {acc:List D} {y:Nat} {tl:Option Ent} (hl:acc.length < 1000000):
  afH [vA (.lst (ns.map .int)),vA (.int a),vA (.int (w:Int)),tl,vA (.int m),some (.lst acc),vA (.int (y:Int))] =
   .nx [vA (.lst (ns.map .int)),vA (.int a),vA (.int (w:Int)),tl,vA (.int m),some (.lst (acc++[row w λ x=>dr ns (a+1+(w:Int)*(y:Int)+(x:Int)) m])),vA (.int (y:Int))]:=by
 have e:aH p7 (ao (bR 1 [1,2,4,0,6] (λ ρ=>((ao (λ ρ=>ak ρ 2) (λ Z=> .ok [])) ρ).bind mW) (aK 0) (λ Z=> .ok true) (aH (bw cJ 3) (ao (λ ρ=>ak ρ 4) (ao (bin (bin (bin (λ ρ=>ak ρ 1) (λ Z=> .ok (.int 1)) jg) (bin (λ ρ=>ak ρ 2) (λ ρ=>ak ρ 5) jH) jg) (λ ρ=>ak ρ 0) jg) (ao (λ ρ=>ak ρ 3) (λ Z=> .ok [])))))) (λ Z=> .ok []))
   [vA (.lst (ns.map .int)),vA (.int a),vA (.int (w:Int)),tl,vA (.int m),some (.lst acc),vA (.int (y:Int))]= .ok (row w λ x=>dr ns (a+1+(w:Int)*(y:Int)+(x:Int)) m):=by
  refine bC (aB (cj (c:=λ (x:Nat)=>D.int (x:Int)) (h:=λ (x:Nat)=>D.int (dr ns (a+1+(w:Int)*(y:Int)+(x:Int)) m)) (l:=List.range w) (m7 (aB rfl) (by omega)) (by rw[z2d];exact mR hw) λ x hx=>?_)) rfl
  refine cM rfl (bH (aF rfl (aF (au (au (au rfl rfl rfl) (au rfl rfl (qd (.inl ⟨by exact z0a _,by omega⟩))) rfl) rfl rfl) (aB rfl))) ?_)
  have hp:(0:Int)<=(w:Int)*(y:Int):=Int.mul_nonneg (by exact z0a _) (by exact z0a _)
  exact (Bx hns (by omega) hm).1
 unfold afH yQ
 rw[e]
 show (if acc.length < 1000000 then So.nx _ else .bad)=_
 rw[if_pos hl];rfl
theorem Vt (hns:ns.length<=1000000) (ha:0<=a) (hm:0 < m) (hw:w<=20) {tl:Option Ent}:∀{ys:List Nat} {acc:List D} {x:Option Ent},acc.length+ys.length<=1000000->
  ∃ x',forL (aK 6) afH (ys.map λ (y:Nat)=>D.int (y:Int)) [vA (.lst (ns.map .int)),vA (.int a),vA (.int (w:Int)),tl,vA (.int m),some (.lst acc),x] =
   .nx [vA (.lst (ns.map .int)),vA (.int a),vA (.int (w:Int)),tl,vA (.int m),some (.lst (acc++ys.map λ (y:Nat)=>row w λ x=>dr ns (a+1+(w:Int)*(y:Int)+(x:Int)) m)),x']
 |[],acc,x,_=>⟨x,by rw[List.map_nil,List.map_nil,List.append_nil];rfl⟩
 | y::ys,acc,x,hl=>by
  rw[List.length_cons] at hl
  obtain⟨x',e⟩:=Vt hns ha hm hw (tl:=tl) (ys:=ys) (acc:=acc++[row w λ x=>dr ns (a+1+(w:Int)*(y:Int)+(x:Int)) m]) (x:=vA (.int (y:Int))) (by rw[z1d];simp only[List.length_cons,List.length_nil];exact akG hl)
  refine⟨x',?_⟩
  rw[List.append_assoc] at e
  rw[z1h,z1h]
  exact jt rfl (ajm hns ha hm hw (by omega)) e
theorem aa2 (hns:ns.length<=1000000) (ha:0<=a) (hw:w<=20) (hw1:1<=w) (hh:h<=20) (hh1:1<=h):∃f,gZ [.lst (ns.map .int),.int a,.int (w:Int),.int (h:Int)]= .ok (bN w h f)/\Ok w h f:=by
 refine bc λ zQ=>?_
 obtain⟨e1,h0,h4⟩:=Bx (k:=a) (m:=4) hns ha (by exact z0a _)
 obtain⟨d,hd,ed⟩:=NQ (xs:=[D.int 2,.int 5,.int 100,.int 10]) h0 h4
 have hm:∃m,d= .int m/\0 < m/\m<=100:=by
  simp only[List.mem_cons,List.not_mem_nil,or_false] at hd
  refine bc λ zQ=>?_
  rcases hd with rfl |rfl |rfl |rfl
  ·apply zQ;clear zQ
   exact⟨_,rfl,by exact z0a _,by exact z0a _⟩
  ·apply zQ;clear zQ
   exact⟨_,rfl,by exact z0a _,by exact z0a _⟩
  ·apply zQ;clear zQ
   exact⟨_,rfl,by exact z0a _,by exact z0a _⟩
  ·apply zQ;clear zQ
   exact⟨_,rfl,by exact z0a _,by exact z0a _⟩
 obtain⟨m,rfl,hm0,hm1⟩:=hm
 obtain⟨x',er⟩:=Vt hns ha hm0 hw (tl:=vA (.int (h:Int))) (ys:=List.range h) (acc:=[]) (x:=none) (by rw[z2d,List.length_nil];exact akH hh)
 apply zQ;clear zQ
 refine⟨λ y x=>dr ns (a+1+(w:Int)*(y:Int)+(x:Int)) m,cL (aV (ρ':=[vA (.lst (ns.map .int)),vA (.int a),vA (.int (w:Int)),vA (.int (h:Int)),vA (.int m),some (.lst []),none]) ?_ (aV (oG (m7 (m:=h) (aB rfl) (by omega)) er) (bM (bC (aB (x:= .lst ((List.range h).map λ (y:Nat)=>row w λ x=>dr ns (a+1+(w:Int)*(y:Int)+(x:Int)) m)) rfl) rfl)))),hw1,hw,hh1,hh,λ y hy x hx=>?_⟩
 ·exact ag0 (au (x:= .lst [D.int 2,.int 5,.int 100,.int 10]) (y:= .int (dr ns a 4)) (dR rfl) (bH (aF rfl (aF rfl (aB rfl))) e1) (Ei ed)) rfl
 ·have hp:(0:Int)<=(w:Int)*(y:Int):=Int.mul_nonneg (by exact ags) (by exact ags)
  have:=(Bx (k:=a+1+(w:Int)*(y:Int)+(x:Int)) (m:=m) hns (by exact akI ha hp) hm0).2
  show 0<=dr _ _ _/\dr _ _ _<=99
  exact akJ this hm1
end
section
variable {w h:Nat} {f g:Nat->Nat->Int}
end
structure Cg (w h:Nat) (s:Nat->Nat):Prop where
 lt:∀y < h,s y < w
 st:∀y,y+1 < h->s (y+1)<=s y+1/\s y<=s (y+1)+1
noncomputable abbrev sm (h:Nat) (s:Nat->Nat):D:=row h λ y=>((s y:Nat):Int)
section
variable {ρ:aq} {fa:aq->R (List D)} {α:Type} {l:List α} {p q r:α->D} {x y z:D}
theorem Om (e:fa ρ= .ok [x,y]) (h1:jC x= .ok (l.map p)) (h2:jC y= .ok (l.map q)):(λ ρ=>(fa ρ).bind zip2) ρ= .ok (l.map λ a=> .tup [p a,q a]):=by
 show (fa ρ).bind zip2=_
 rw[e,R.bF,ai5,h1,R.bF,h2,R.bF,JB,List.zip_map',List.map_map];rfl
theorem alP {i j:Int} (h:i < j):ltI (.int i) (.int j)= .ok (.bl true):=by
 show R.ok (D.bl (decide (i < j)))=_
 rw[decide_eq_true h]
theorem ahu {i j:Int} (h:i=j):oF (.int i) (.int j)= .ok (.bl false):=mZ (by rw[h]) (by simp[jF,jG,vI,vJ,vK,vL])
theorem adL {n d k:Nat}:HT.sIx n d (some (k:Int))=min k n:=by
 show (if (k:Int) < 0 then ((k:Int)+(n:Int)).toNat else min (k:Int).toNat n)=min k n
 rw[if_neg (by exact akK),Int.toNat_natCast]
theorem Fp {n d:Nat}:HT.sIx n d none=d:=rfl
theorem ahv {ds:List D} {n:Nat} (h:n<=ds.length):kJ ds none (some (n:Int))=ds.take n:=by
 rw[kJ,adL,Fp,Nat.min_eq_left h,Nat.sub_zero];rfl
theorem adM {ds:List D} {n:Nat} (h:n<=ds.length):kJ ds (some (n:Int)) none=ds.drop n:=by
 rw[kJ,adL,Fp,Nat.min_eq_left h,List.take_of_length_le (by rw[List.length_drop];exact z0g _)]
theorem ahw {f:aq->R D} {fu:aq->R (Option Int)} {ds:List D} {n:Nat} (e1:f ρ= .ok (.tup ds)) (e2:fu ρ= .ok (some (n:Int))) (h:n<=ds.length):wK f (λ Z=> .ok none) fu ρ= .ok (.tup (ds.take n)):=by
 rw[wK,e1,R.bF,R.bF,e2,R.bF,adi,ahv h]
theorem Ar {xs ys:List D} (h:xs.length+ys.length<=1000000):dH (.tup xs) (.tup ys)= .ok (.tup (xs++ys)):=by
 exact if_pos h
theorem Il {xs ys:List D} (h:xs.length+ys.length<=1000000):dH (.lst xs) (.lst ys)= .ok (.lst (xs++ys)):=by
 rw[dH,if_pos h]
end
section
variable {w h:Nat} {g:Nat->Int} {n:Nat} {c:Int}
end
section
variable {w h:Nat} {f:Nat->Nat->Int} {s:Nat->Nat}
theorem len0 (o:Ok w h f) {ρ:aq} {u:aq->R D} (e:u ρ= .ok (bN w h f)):aH eG (ao (bin u (λ Z=> .ok (.int 0)) cI) (λ Z=> .ok [])) ρ= .ok (.int (w:Int)):=by
 refine bC (aB (au e rfl (o7 (i:=0) (d:=row w (f 0)) ?_))) ?_
 ·rw[z2b,List.getElem?_range o.h1];rfl
 ·simp[row,Ai,vR]
noncomputable def less (s:Nat->Nat) (f:Nat->Nat->Int):Nat->Nat->Int:=λ y x=>if x < s y then f y x else f y (x+1)
noncomputable def more (s:Nat->Nat) (c:Nat->Int) (f:Nat->Nat->Int):Nat->Nat->Int:=λ y x=>if x < s y then f y x else if x=s y then c y else f y (x - 1)
end
theorem Av {ρ:aq} {fa:aq->R (List D)} {ds:List D} {i:Nat} (e:fa ρ= .ok ds) (h:autoParam (ds.length<=1000000) ap7._auto_1):newL fa i ρ= .nx (ρ.set i (some (.lst ds))):=by
 unfold newL
 rw[e]
 show (if _ then _ else _)=_
 rw[if_pos h]
noncomputable def pl (ps:List Nat):List D:=ps.map λ p=> .int ((p:Nat):Int)
section
variable {ns:List Int} {a:Int} {w h:Nat} {t:Option Ent}
end
section
variable {w h:Nat} {f:Nat->Nat->Int}
end
section
variable {w h:Nat} {f:Nat->Nat->Int} {s:Nat->Nat} {c:Nat->Int}
end
noncomputable def ab (i:Int):Int:=if i < 0 then -i else i
noncomputable def gap (n:Nat) (g:Nat->Int) (x:Nat):Int:=ab (g (x - 1) - g (min (x+1) (n - 1)))
noncomputable def Vu (w h:Nat) (f:Nat->Nat->Int) (y x:Nat):Int:=gap w (f y) x+gap h (λ y=>f y x) y
section
variable {n w h:Nat} {g:Nat->Int} {f:Nat->Nat->Int} {s:Nat->Nat} {ρ:aq}
theorem Oo:eG [row n g]= .ok (.int (n:Int)):=by simp[row,Ai,vR]
theorem Im:eG [bN w h f]= .ok (.int (h:Int)):=by simp[bN,Ai,vR]
theorem Fq {n:Nat} (h1:1<=n):fD (.int (n:Int)) (.int 1)= .ok (.int ((n - 1:Nat):Int)):=by
 show R.ok (D.int ((n:Int) - 1))=_
 rw[show (n:Int) - 1=((n - 1:Nat):Int) by exact akL h1]
theorem aa3 {x:Nat}:maxD [.int ((x:Int) - 1),.int 0]= .ok (.int ((x - 1:Nat):Int)):=by
 show R.ok (D.int (if (0:Int) > (x:Int) - 1 then 0 else (x:Int) - 1))=_
 congr 2
 split <;> (first |exact akM (by assumption) |exact akN (by assumption))
theorem min1 {x n:Nat}:minD [.int ((x+1:Nat):Int),.int (n:Int)]= .ok (.int ((min (x+1) n:Nat):Int)):=by
 show R.ok (D.int (if (n:Int) < ((x+1:Nat):Int) then (n:Int) else ((x+1:Nat):Int)))=_
 congr 2
 split <;> (first |exact akO (by assumption) |exact akP (by assumption))
theorem nj {x:Nat} (hx:x < n):cI (row n g) (.int (x:Int))= .ok (.int (g x)):=by
 refine o7 (i:=x) ?_
 rw[z2b,List.getElem?_range hx];rfl
theorem tQ {y:Nat} (hy:y < h):cI (bN w h f) (.int (y:Int))= .ok (row w (f y)):=by
 refine o7 (i:=y) ?_
 rw[z2b,List.getElem?_range hy];rfl
theorem qw {α:Type} {p:Nat->D} {x:Nat} (hx:x < n):cI (.lst ((List.range n).map p)) (.int (x:Int))= .ok (p x):=by
 refine wG (i:=x) ?_
 rw[z2b,List.getElem?_range hx];rfl
theorem Oq (h1:1<=n) (vH:n<=20):oJ [row n g]= .ok (.lst ((List.range n).map λ x=> .int (gap n g x))):=by
 refine cL (aV (bB (au (bC (aB rfl) Oo) rfl (Fq h1)) rfl) (bM (cj (c:=λ (x:Nat)=>D.int (x:Int)) (h:=λ x=> .int (gap n g x)) (l:=List.range n) (m7 (aB (bC (aB rfl) Oo)) (by exact Hw vH)) (by rw[z2d];exact mR vH) λ x hx=>?_)))
 have hx:=z2e hx
 exact cM rfl (bC (aB (au (x:= .int (g (x - 1))) (y:= .int (g (min (x+1) (n - 1)))) (au rfl (bC (aF (au rfl rfl rfl) (aB rfl)) aa3) (nj (by exact Ug hx))) (au rfl (bC (aF (x:= .int ((x+1:Nat):Int)) (au rfl rfl rfl) (aB rfl)) min1) (nj (by exact agt h1))) rfl)) rfl)
theorem adN (o:Ok w h f):qZ [bN w h f]= .ok (bN w h (Vu w h f)):=by
 have vH:=o.h2
 have w20:=o.w2
 refine cL (aV (bB (bH (aB rfl) (size_eq o)) rfl)
  (aV (bB (cj (c:=λ y=>row w (f y)) (h:=λ y=> .lst ((List.range w).map λ x=> .int (gap w (f y) x))) (l:=List.range h) (nO rfl) (by rw[z2d];exact mR vH) λ y hy=>cM rfl (bH (aB rfl) (Oq o.w1 o.w2))) rfl)
  (aV (bB (cj (c:=λ x=>row h λ y=>f y x) (h:=λ x=> .lst ((List.range h).map λ y=> .int (gap h (λ y=>f y x) y))) (l:=List.range w) (nO (bH (aB rfl) (adK o))) (by rw[z2d];exact mR w20) λ y hy=>cM rfl (bH (aB rfl) (Oq o.h1 o.h2))) rfl)
  (bM (bC (aB (cj (c:=λ (y:Nat)=>D.int (y:Int)) (h:=λ y=>row w (Vu w h f y)) (l:=List.range h) (m7 (aB rfl) (by exact Hw vH)) (by rw[z2d];exact mR vH) λ y hy=>?_)) rfl)))))
 have hy:=z2e hy
 refine cM rfl (bC (aB (cj (c:=λ (x:Nat)=>D.int (x:Int)) (h:=λ x=> .int (Vu w h f y x)) (l:=List.range w) (m7 (aB rfl) (by exact Hw w20)) (by rw[z2d];exact mR w20) λ x hx=>?_)) rfl)
 have hx:=z2e hx
 exact cM rfl (au (x:= .int (gap w (f y) x)) (y:= .int (gap h (λ y=>f y x) y)) (au (au rfl rfl (qw (α:=D) hy)) rfl (qw (α:=D) hx)) (au (au rfl rfl (qw (α:=D) hx)) rfl (qw (α:=D) hy)) rfl)
noncomputable def eO (T:Nat->Int):D:= .tup [.int (T 0),.int (T 1),.int (T 2)]
noncomputable def tab (w h:Nat) (T:Nat->Nat->Nat->Int):D:= .lst ((List.range h).map λ y=> .lst ((List.range w).map λ x=>eO (T y x)))
noncomputable def nq (w:Nat) (f:Nat->Nat->Int) (y x i:Nat):Int:=gap w (f y) x+(if i=0 then ab (f (y - 1) x - f y (x - 1)) else if i=1 then 0 else ab (f (y - 1) x - f y (min (x+1) (w - 1))))
noncomputable def agN:aq->So:=(bh (bL (bin (λ ρ=>ak ρ 7) (aH wH (ao (bin (bin (λ ρ=>ak ρ 3) (λ ρ=>ak ρ 6) cI) (bin (λ ρ=>ak ρ 2) (aH maxD (ao (bin (λ ρ=>ak ρ 6) (λ Z=> .ok (.int 1)) fD) (ao (λ Z=> .ok (.int 0)) (λ Z=> .ok [])))) cI) fD) (λ Z=> .ok []))) dH) (aK 8)) (bh (bL (bin (λ ρ=>ak ρ 7) (aH wH (ao (bin (bin (λ ρ=>ak ρ 3) (λ ρ=>ak ρ 6) cI) (bin (λ ρ=>ak ρ 2) (aH minD (ao (bin (λ ρ=>ak ρ 6) (λ Z=> .ok (.int 1)) dH) (ao (λ ρ=>ak ρ 4) (λ Z=> .ok [])))) cI) fD) (λ Z=> .ok []))) dH) (aK 9)) (yQ 5 (gB (ao (λ ρ=>ak ρ 8) (ao (λ ρ=>ak ρ 7) (ao (λ ρ=>ak ρ 9) (λ Z=> .ok []))))))))
theorem adO {i:Nat} {u:aq->R D} {d:D} {ds:List D} (e:u ρ= .ok d) (h:ρ[i]?=some (some (.lst ds))) (hl:ds.length < 1000000):yQ i u ρ= .nx (ρ.set i (some (.lst (ds++[d])))):=by
 unfold yQ
 rw[e]
 simp only[Ku,qM,h]
 rw[if_pos hl]
theorem afI (h1:1<=w) {y x:Nat} (hx:x < w) {e0 e1 e8 e9:Option Ent} {acc:List D} (hl:acc.length < 1000000):
  ∃ z8 z9,agN [e0,e1,vA (row w (f y)),vA (row w (f (y - 1))),vA (.int ((w - 1:Nat):Int)),some (.lst acc),vA (.int (x:Int)),vA (.int (gap w (f y) x)),e8,e9] =
   .nx [e0,e1,vA (row w (f y)),vA (row w (f (y - 1))),vA (.int ((w - 1:Nat):Int)),some (.lst (acc++[eO (nq w f y x)])),vA (.int (x:Int)),vA (.int (gap w (f y) x)),z8,z9]:=by
 refine⟨_,_,aV (bB (d:= .int (nq w f y x 0)) (au (x:= .int (gap w (f y) x)) (y:= .int (ab (f (y - 1) x - f y (x - 1)))) rfl (bC (aB (au (x:= .int (f (y - 1) x)) (y:= .int (f y (x - 1))) (au rfl rfl (nj hx)) (au rfl (bC (aF (au rfl rfl rfl) (aB rfl)) aa3) (nj (by exact Ug hx))) rfl)) rfl) rfl) rfl)
  (aV (bB (d:= .int (nq w f y x 2)) (au (x:= .int (gap w (f y) x)) (y:= .int (ab (f (y - 1) x - f y (min (x+1) (w - 1))))) rfl (bC (aB (au (x:= .int (f (y - 1) x)) (y:= .int (f y (min (x+1) (w - 1)))) (au rfl rfl (nj hx)) (au rfl (bC (aF (x:= .int ((x+1:Nat):Int)) (au rfl rfl rfl) (aB rfl)) min1) (nj (by exact agt h1))) rfl)) rfl) rfl) rfl)
  (adO (d:=eO (nq w f y x)) ((fK (aF rfl (aF rfl (aB rfl)))).trans ?_) rfl hl))⟩
 have:nq w f y x 1=gap w (f y) x:=by simp[nq]
 rw[eO,this]
theorem join_loop (h1:1<=w) {y:Nat} {e0 e1:Option Ent}:∀{xs:List Nat} {acc:List D} {e6 e7 e8 e9:Option Ent},(∀x∈xs,x < w)->acc.length+xs.length<=1000->
  ∃ z6 z7 z8 z9,forL (gQ (gR 2 (bO (aK 6) (bO (aK 7) nilG)))) agN (xs.map λ (x:Nat)=>D.tup [.int (x:Int),.int (gap w (f y) x)]) [e0,e1,vA (row w (f y)),vA (row w (f (y - 1))),vA (.int ((w - 1:Nat):Int)),some (.lst acc),e6,e7,e8,e9] =
   .nx [e0,e1,vA (row w (f y)),vA (row w (f (y - 1))),vA (.int ((w - 1:Nat):Int)),some (.lst (acc++xs.map λ x=>eO (nq w f y x))),z6,z7,z8,z9]
 |[],acc,e6,e7,e8,e9,_,_=>⟨e6,e7,e8,e9,by rw[List.map_nil,List.map_nil,List.append_nil];rfl⟩
 | x::xs,acc,e6,e7,e8,e9,hx,hl=>by
  rw[List.length_cons] at hl
  refine bc λ zQ=>?_
  obtain⟨z8,z9,e⟩:=afI (f:=f) (y:=y) h1 (hx x (by simp)) (e0:=e0) (e1:=e1) (e8:=e8) (e9:=e9) (acc:=acc) (by exact akQ hl)
  obtain⟨y6,y7,y8,y9,e'⟩:=join_loop h1 (y:=y) (e0:=e0) (e1:=e1) (xs:=xs) (acc:=acc++[eO (nq w f y x)]) (e6:=vA (.int (x:Int))) (e7:=vA (.int (gap w (f y) x))) (e8:=z8) (e9:=z9) (λ z hz=>hx z (by simp[hz])) (by simp;exact agu hl)
  apply zQ;clear zQ
  refine⟨y6,y7,y8,y9,?_⟩
  rw[List.append_assoc] at e'
  rw[z1h,z1h]
  exact jt rfl e e'
theorem Rj {p:Nat->D}:∀{n m:Nat},sU m ((List.range' m n).map p)=(List.range' m n).map λ (x:Nat)=>D.tup [.int (x:Int),p x]
 |0,_=>rfl
 |n+1,m=>by rw[List.range'_succ,z1h,z1h,Ib,Rj]
theorem Io {fa:aq->R (List D)} {x:D} {n:Nat} {p:Nat->D} (e:fa ρ= .ok [x]) (h:jC x= .ok ((List.range n).map p)):(λ ρ=>(fa ρ).bind yI) ρ= .ok ((List.range n).map λ (y:Nat)=>D.tup [.int (y:Int),p y]):=by
 show (fa ρ).bind yI=_
 rw[e,R.bF,ag8,h,R.bF,List.range_eq_range',Rj]
theorem RN (o:Ok w h f) {y:Nat} (hy:y < h):kO [bN w h f,.int (y:Int)]= .ok (.lst ((List.range w).map λ x=>eO (nq w f y x))):=by
 have w20:=o.w2
 obtain⟨z6,z7,z8,z9,e⟩:=join_loop (f:=f) (y:=y) o.w1 (e0:=vA (bN w h f)) (e1:=vA (.int (y:Int))) (xs:=List.range w) (acc:=[]) (e6:=none) (e7:=none) (e8:=none) (e9:=none) (λ x hx=>z2e hx) (by rw[z2d,List.length_nil];exact akR w20)
 exact cL (aV (bB (au rfl rfl (tQ hy)) rfl) (aV (bB (au rfl (bC (aF (au rfl rfl rfl) (aB rfl)) aa3) (tQ (by exact Ug hy))) rfl) (aV (bB (au (bC (aB rfl) Oo) rfl (Fq o.w1)) rfl) (aV (Av rfl)
  (aV (oG (Io (aB (bH (aB rfl) (Oq o.w1 o.w2))) rfl) e) (bM (d:= .lst ((List.range w).map λ x=>eO (nq w f y x))) rfl))))))
theorem rA {a b:Str}:qb (.str a) (.str b)= .ok (.bl (a ==b)):=by
 rw[qb,if_pos (by simp[jF,jG,vI,vJ,vK,vL])]
 show R.ok (D.bl (fB (.str a) (.str b)))=_
 simp[aN,aO,aP,aQ,aR,aL,aJ]
noncomputable def wo3 (w h:Nat) (f:Nat->Nat->Int) (y x i:Nat):Int:=Vu w h f y x
theorem ahx (o:Ok w h f):jO [bN w h f,.str "worth"]= .ok (tab w h (wo3 w h f)):=by
 have vH:=o.h2
 have w20:=o.w2
 exact cL (jB (fZ (bf (b:=true) (au rfl rfl rA)) (bM (cj (c:=λ y=>row w (Vu w h f y)) (h:=λ y=> .lst ((List.range w).map λ x=>eO (wo3 w h f y x))) (l:=List.range h) (nO (bH (aB rfl) (adN o))) (by rw[z2d];exact mR vH) λ y hy=>
  cM rfl (cj (c:=λ x=> .int (Vu w h f y x)) (h:=λ x=>eO (wo3 w h f y x)) (l:=List.range w) (nO rfl) (by rw[z2d];exact mR w20) λ x hx=>cM rfl (fK (aF rfl (aF rfl (aB rfl)))))))))
theorem ahy (o:Ok w h f):jO [bN w h f,.str "joins"]= .ok (tab w h (nq w f)):=by
 have vH:=o.h2
 exact cL (aV (dB (bf (b:=false) (au rfl rfl rA)) rfl) (bM (cj (c:=λ (y:Nat)=>D.int (y:Int)) (h:=λ y=> .lst ((List.range w).map λ x=>eO (nq w f y x))) (l:=List.range h) (m7 (aB (bC (aB rfl) Im)) (by exact Hw vH)) (by rw[z2d];exact mR vH) λ y hy=>
  cM rfl (bH (aF rfl (aB rfl)) (RN o (z2e hy))))))
noncomputable def fare (T:Nat->Nat->Nat->Int) (s:Nat->Nat) (y:Nat):Int:=T y (s y) (s (y - 1)+1 - s y)
noncomputable def cost (h:Nat) (T:Nat->Nat->Nat->Int) (s:Nat->Nat):Int:=T 0 (s 0) 1+((List.range (h - 1)).map λ y=>fare T s (y+1)).sum
theorem Ld {T:Nat->Int} {p:Nat->D} {a b:Nat} (hb:b < w) (h1:b<=a+1) (h2:a<=b+1) (hp:p b=eO T):iR [.lst ((List.range w).map p),.int (a:Int),.int (b:Int)]= .ok (.int (T (a+1 - b))):=by
 refine cL (bM (au (x:=eO T) (y:= .int ((a+1 - b:Nat):Int)) (au rfl rfl ((qw (α:=D) hb).trans (congrArg R.ok hp))) (au (au rfl rfl rfl) rfl ?_) (o7 (i:=a+1 - b) ?_)))
 ·show R.ok (D.int ((a:Int) - (b:Int)+1))=_
  rw[show (a:Int) - (b:Int)+1=((a+1 - b:Nat):Int) by exact akS h1]
 ·have:a+1 - b=0\/a+1 - b=1\/a+1 - b=2:=by exact akT h2
  rcases this with e |e |e <;> rw[e] <;> rfl
theorem Aw {m:Str} (hm:m= "worth"\/m= "joins"):dI [.str m]= .ok .non:=by
 rcases hm with rfl |rfl
 ·exact aaL (dB (bf (b:=false) (au rfl rfl (by simp[BW,fB,dep]))) rfl)
 ·exact aaL (dB (bf (b:=false) (au rfl rfl (by simp[BW,fB,dep]))) rfl)
noncomputable def tbl (m:Str) (w h:Nat) (f:Nat->Nat->Int):Nat->Nat->Nat->Int:=if m= "worth" then wo3 w h f else nq w f
end
section
variable {n w h:Nat} {g:Nat->Int} {f:Nat->Nat->Int} {s:Nat->Nat} {c:Int} {m:Str} {ρ:aq}
theorem Vv {F:List D->R D} {n j:Nat} {sel:List (Sum Nat D)} {fa fk:aq->R (List D)} {ds zs:List D} {d:D} (e1:fa ρ= .ok ds) (e2:fk ρ= .ok zs) (e3:F (ds++pickK .non sel zs)= .ok d) (hl:autoParam ((ds++pickK .non sel zs).length=n) bD._auto_1) (hj:autoParam (zs.length=j) bD._auto_1):HY F n j sel fa fk ρ= .ok d:=by
 rw[HY,e1,R.bF,e2,R.bF,if_pos hj,bw,if_pos hl,e3];rfl
theorem adP {p:Nat->Int} (hh:1<=h):((List.range h).map p).sum=p 0+((List.range (h - 1)).map λ y=>p (y+1)).sum:=by
 obtain⟨k,rfl⟩:∃k,h=k+1:=⟨h - 1,by omega⟩
 rw[List.range_succ_eq_map,z1h,List.sum_cons,List.map_map];rfl
noncomputable abbrev clip (n:Nat) (X:Int):Int:=if (if X < ((n - 1:Nat):Int) then X else ((n - 1:Nat):Int)) > 0 then (if X < ((n - 1:Nat):Int) then X else ((n - 1:Nat):Int)) else 0
theorem Uc {X Y:Int} {x y:Nat} (o:Ok w h f) (hy:clip h Y=(y:Int)) (hyh:y < h) (hx:clip w X=(x:Int)) (hxw:x < w):iQ [bN w h f,.int X,.int Y]= .ok (.int (f y x)):=by
 refine cL (bM (au (x:=row w (f y)) (y:= .int (x:Int)) (au rfl (bC (aF rfl (aB (bC (aF (au (bC (aB rfl) Im) rfl (Fq o.h1)) (aB rfl)) rfl))) ?_) (tQ hyh)) (bC (aF rfl (aB (bC (aF (au (len0 o rfl) rfl (Fq o.w1)) (aB rfl)) rfl))) ?_) (nj hxw)))
 ·exact congrArg (λ z=>R.ok (D.int z)) hy
 ·exact congrArg (λ z=>R.ok (D.int z)) hx
theorem Ir {x:Nat} (hx:x < n):clip n (x:Int)=(x:Int):=by unfold clip;split <;> split <;> omega
theorem aac {x:Nat} (hx:x < n):clip n ((x+1:Nat):Int)=((min (x+1) (n - 1):Nat):Int):=by unfold clip;split <;> split <;> omega
theorem aad {x:Nat} (hx:x < n):clip n ((x:Int) - 1)=((x - 1:Nat):Int):=by unfold clip;split <;> split <;> omega
theorem wX (o:Ok w h f) {x y:Nat} (hx:x < w) (hy:y < h) {e1 e4 e5:Option Ent}:aH wH (ao (bin (aH (bw iQ 3) (ao (λ ρ=>ak ρ 0) (ao (bin (λ ρ=>ak ρ 2) (λ Z=> .ok (.int 1)) fD) (ao (λ ρ=>ak ρ 3) (λ Z=> .ok []))))) (aH (bw iQ 3) (ao (λ ρ=>ak ρ 0) (ao (bin (λ ρ=>ak ρ 2) (λ Z=> .ok (.int 1)) dH) (ao (λ ρ=>ak ρ 3) (λ Z=> .ok []))))) fD) (λ Z=> .ok []))
  [vA (bN w h f),e1,vA (.int (x:Int)),vA (.int (y:Int)),e4,e5]= .ok (.int (gap w (f y) x)):=
 bC (aB (au (x:= .int (f y (x - 1))) (y:= .int (f y (min (x+1) (w - 1)))) (bH (aF rfl (aF (x:= .int ((x:Int) - 1)) (au rfl rfl rfl) (aB rfl))) (Uc o (Ir hy) hy (aad hx) (by omega))) (bH (aF rfl (aF (x:= .int ((x+1:Nat):Int)) (au rfl rfl rfl) (aB rfl))) (Uc o (Ir hy) hy (aac hx) (by omega))) rfl)) rfl
theorem ajn (o:Ok w h f) {x y:Nat} (hx:x < w) (hy:y < h) {d:D}:iw [bN w h f,.str "worth",.int (x:Int),.int (y:Int),d]= .ok (.int (Vu w h f y x)):=by
 refine cL (aV (bB (wX o hx hy) rfl) (jB (fZ (bf (b:=true) (au rfl rfl rA)) (bM (au (x:= .int (gap w (f y) x)) (y:= .int (gap h (λ y=>f y x) y)) rfl (bC (aB (au (x:= .int (f (y - 1) x)) (y:= .int (f (min (y+1) (h - 1)) x)) ?_ ?_ rfl)) rfl) rfl)))))
 ·exact bH (aF rfl (aF rfl (aB (x:= .int ((y:Int) - 1)) (au rfl rfl rfl)))) (Uc o (aad hy) (by omega) (Ir hx) hx)
 ·exact bH (aF rfl (aF rfl (aB (x:= .int ((y+1:Nat):Int)) (au rfl rfl rfl)))) (Uc o (aac hy) (by omega) (Ir hx) hx)
theorem Iu {c:aq->R Bool} {f g:aq->R D} {r:R D} (e:c ρ= .ok true) (h:f ρ=r):Ks c f g ρ=r:=by rw[Ks,e,R.bF,if_pos rfl,h]
theorem Ot {c:aq->R Bool} {f g:aq->R D} {r:R D} (e:c ρ= .ok false) (h:g ρ=r):Ks c f g ρ=r:=by rw[Ks,e,R.bF,if_neg (by decide),h]
theorem alQ {i j:Int}:oF (.int i) (.int j)= .ok (.bl (!decide (i=j))):=by
 rw[oF,if_pos (by simp[jF,jG,vI,vJ,vK,vL])]
 show R.ok (D.bl (!fB (.int i) (.int j)))=_
 by_cases h:i=j <;> simp[aN,aO,aP,aQ,aR,aL,aJ,h]
theorem ahz (o:Ok w h f) {x y:Nat} (hx:x < w) (hy:y < h):iw [bN w h f,.str "joins",.int (x:Int),.int (y:Int),.non]= .ok (.int (nq w f y x 1)):=by
 have e:nq w f y x 1=gap w (f y) x:=by simp[nq]
 rw[e]
 exact cL (aV (bB (wX o hx hy) rfl) (aV (dB (bf (b:=false) (au rfl rfl rA)) rfl) (aV (dB (HS (bf (b:=false) (au rfl rfl rfl))) rfl) (bM rfl))))
theorem ajo (o:Ok w h f) {x y b:Nat} (hx:x < w) (hy:y+1 < h) (hb:b < w) (h1:b<=x+1) (h2:x<=b+1):iw [bN w h f,.str "joins",.int (x:Int),.int ((y+1:Nat):Int),.int (b:Int)]= .ok (.int (nq w f (y+1) x (b+1 - x))):=by
 by_cases hbx:b=x
 ·subst hbx
  have e:nq w f (y+1) b (b+1 - b)=gap w (f (y+1)) b:=by simp[nq,show b+1 - b=1 by omega]
  rw[e]
  exact cL (aV (bB (wX o hx hy) rfl) (aV (dB (bf (b:=false) (au rfl rfl rA)) rfl) (aV (dB (pH (bf (b:=true) (au rfl rfl rfl)) (bf (au rfl rfl (ahu rfl)))) rfl) (bM rfl))))
 ·have hne:oF (.int (b:Int)) (.int (x:Int))= .ok (.bl true):=by rw[alQ,decide_eq_false (by omega)];rfl
  by_cases hlt:b < x
  ·have e:nq w f (y+1) x (b+1 - x)=gap w (f (y+1)) x+ab (f y x - f (y+1) (x - 1)):=by simp[nq,show b+1 - x=0 by omega]
   rw[e]
   exact cL (aV (bB (wX o hx hy) rfl) (aV (dB (bf (b:=false) (au rfl rfl rA)) rfl) (aV (fZ (pH (bf (b:=true) (au rfl rfl rfl)) (bf (au rfl rfl hne)))
    (bB (d:= .int (gap w (f (y+1)) x+ab (f y x - f (y+1) (x - 1)))) (au (x:= .int (gap w (f (y+1)) x)) (y:= .int (ab (f y x - f (y+1) (x - 1)))) rfl (bC (aB (au (x:= .int (f y x)) (y:= .int (f (y+1) (x - 1))) (au (au rfl (au (x:= .int ((y+1:Nat):Int)) rfl rfl (Fq (by omega))) (tQ (y:=y+1 - 1) (by omega))) rfl (nj hx)) (au (au rfl rfl (tQ hy)) (Iu (bf (au rfl rfl (alP (by omega)))) (au (x:= .int (x:Int)) rfl rfl (Fq (by omega)))) (nj (by omega))) rfl)) rfl) rfl) rfl)) (bM rfl))))
  ·have e:nq w f (y+1) x (b+1 - x)=gap w (f (y+1)) x+ab (f y x - f (y+1) (x+1)):=by simp[nq,show b+1 - x=2 by omega,show min (x+1) (w - 1)=x+1 by omega]
   have hf:ltI (.int (b:Int)) (.int (x:Int))= .ok (.bl false):=by
    show R.ok (D.bl (decide _))=_
    rw[decide_eq_false (by omega)]
   rw[e]
   exact cL (aV (bB (wX o hx hy) rfl) (aV (dB (bf (b:=false) (au rfl rfl rA)) rfl) (aV (fZ (pH (bf (b:=true) (au rfl rfl rfl)) (bf (au rfl rfl hne)))
    (bB (d:= .int (gap w (f (y+1)) x+ab (f y x - f (y+1) (x+1)))) (au (x:= .int (gap w (f (y+1)) x)) (y:= .int (ab (f y x - f (y+1) (x+1)))) rfl (bC (aB (au (x:= .int (f y x)) (y:= .int (f (y+1) (x+1))) (au (au rfl (au (x:= .int ((y+1:Nat):Int)) rfl rfl (Fq (by omega))) (tQ (y:=y+1 - 1) (by omega))) rfl (nj hx)) (au (au rfl rfl (tQ hy)) (Ot (bf (au rfl rfl hf)) (au (x:= .int (x:Int)) (y:= .int 1) rfl rfl rfl)) (nj (x:=x+1) (by omega))) rfl)) rfl) rfl) rfl)) (bM rfl))))
noncomputable def bef (h:Nat) (s:Nat->Nat):List D:=D.non::(List.range (h - 1)).map λ y=>D.int ((s y:Nat):Int)
theorem ajp (hh:1<=h) (vH:h<=20) {e0 e1 e3:Option Ent}:bin (gB (ao (λ Z=> .ok .non) (λ Z=> .ok []))) (wK (λ ρ=>ak ρ 2) (λ Z=> .ok none) (λ ρ=>(((Ek (λ Z=> .ok (.int 1))):aq->R D) ρ).bind Q7)) dH [e0,e1,vA (sm h s),e3]= .ok (.tup (bef h s)):=by
 have e:wK (λ ρ=>ak ρ 2) (λ Z=> .ok none) (λ ρ=>(((Ek (λ Z=> .ok (.int 1))):aq->R D) ρ).bind Q7) [e0,e1,vA (sm h s),e3]= .ok (.tup ((List.range (h - 1)).map λ y=>D.int ((s y:Nat):Int))):=by
  show R.ok (D.tup (kJ ((List.range h).map λ y=>D.int ((s y:Nat):Int)) none (some (-1))))=_
  have e2:∀{n d:Nat},HT.sIx n d (some (-1))=n - 1:=λ {n d}=>by
   show (if (-1:Int) < 0 then ((-1:Int)+(n:Int)).toNat else min (-1:Int).toNat n)=n - 1
   rw[if_pos (by decide)];omega
  rw[kJ,e2,Fp,Nat.sub_zero,z1g,z2d,List.drop_zero,<-List.map_take,List.take_range,Nat.min_eq_left (by omega)]
 exact au (fK (aB rfl)) e (Ar (by simp;omega))
theorem ajq {y:Nat} (hy:y < h):cI (.tup (bef h s)) (.int (y:Int))= .ok (if y=0 then .non else .int ((s (y - 1):Nat):Int)):=by
 refine o7 (i:=y) ?_
 cases y with
 |zero=>rfl
 | succ y=>
  show ((List.range (h - 1)).map λ y=>D.int ((s y:Nat):Int))[y]?=_
  rw[z2b,List.getElem?_range (by omega)];rfl
theorem step_eq (hm:m= "worth"\/m= "joins") (o:Ok w h f) (q:Cg w h s) {y:Nat} (hy:y < h):iw [bN w h f,.str m,.int ((s y:Nat):Int),.int (y:Int),if y=0 then .non else .int ((s (y - 1):Nat):Int)]= .ok (.int (if y=0 then tbl m w h f 0 (s 0) 1 else fare (tbl m w h f) s y)):=by
 rcases hm with rfl |rfl
 ·rw[ajn o (q.lt y hy) hy]
  by_cases h0:y=0
  ·subst h0;rfl
  ·rw[if_neg h0];rfl
 ·by_cases h0:y=0
  ·subst h0
   rw[if_pos rfl,if_pos rfl]
   exact ahz o (q.lt 0 hy) hy
  ·obtain⟨k,rfl⟩:∃k,y=k+1:=⟨y - 1,by omega⟩
   rw[if_neg h0,if_neg h0]
   obtain⟨k1,k2⟩:=q.st k hy
   exact ajo o (q.lt _ hy) hy (q.lt k (by omega)) k2 k1
theorem X8 (hm:m= "worth"\/m= "joins") (o:Ok w h f) (q:Cg w h s):kh [bN w h f,.str m,sm h s]= .ok (.int (cost h (tbl m w h f) s)):=by
 have vH:=o.h2
 have e:((List.range h).map λ y=>if y=0 then tbl m w h f 0 (s 0) 1 else fare (tbl m w h f) s y).sum=cost h (tbl m w h f) s:=by
  rw[adP o.h1,if_pos rfl]
  rfl
 rw[<-e]
 refine cL (aV (bB (ajp o.h1 vH) rfl) (bM (bC (aB (cj (c:=λ (y:Nat)=>D.tup [.int (y:Int),.int ((s y:Nat):Int)]) (h:=λ y=> .int (if y=0 then tbl m w h f 0 (s 0) 1 else fare (tbl m w h f) s y)) (l:=List.range h) (Io (aB rfl) rfl) (by rw[z2d];omega) λ y hy=>?_)) ZK)))
 have hy:=z2e hy
 exact cM rfl (bH (aF rfl (aF rfl (aF rfl (aF rfl (aB (au rfl rfl (ajq hy))))))) (step_eq hm o q hy))
end
noncomputable abbrev Wy:=Int×Int×List Int
noncomputable def fl (t:Wy):List Int:=t.1::t.2.1::t.2.2
noncomputable def un (l:List Int):Wy:=(l.getD 0 0,l.getD 1 0,l.drop 2)
theorem aa4 (t:Wy):un (fl t)=t:=rfl
theorem Vw {a b:Wy} (h:fl a=fl b):a=b:=by have:=congrArg un h;simpa[aa4] using this
noncomputable def iY (t:Wy):D:= .tup [.int t.1,.int t.2.1,.tup (t.2.2.map .int)]
theorem JN (t:Wy):iY t=kI (fl t):=rfl
noncomputable def cY (l:List Wy):D:= .lst (l.map iY)
section
variable {n w h:Nat} {g:Nat->Int} {f:Nat->Nat->Int} {ρ:aq}
theorem aae {i:Nat} {u:aq->R D} {ds es:List D} (h:ρ[i]?=some (some (.lst ds))) (e:u ρ= .ok (.lst es)) (hl:ds.length+es.length<=1000000):JG i u ρ= .nx (ρ.set i (some (.lst (ds++es)))):=by
 unfold JG
 simp only[h,e,Ku,qM]
 rw[if_pos hl]
theorem ahA {i k:Nat} {ds es:List D} (h:ρ[i]?=some (some (.lst ds))) (h2:ρ[k]?=some (some (.lst es))) (hl:ds.length < 1000000):Oa i k ρ= .nx ((ρ.set i (some (.lst (ds++[.lst es])))).set k (some (.val (.lst es)))):=by
 unfold Oa
 simp only[h,h2]
 rw[if_pos hl]
theorem Vx {i a:Nat} {G:List D->R D} {n:Nat} {fa:aq->R (List D)} {ds:List D} {d:D} (h:ρ[i]?=some (some (.obj (.fn a)))) (e:fa ρ= .ok ds) (e2:G ds= .ok d) (hl:autoParam (ds.length=n) bD._auto_1):Ii i a G n fa ρ= .ok d:=by
 unfold Ii
 simp only[h,e,if_true,R.bF,bw,hl,e2]
 rfl
theorem ajr {i:Nat} {u:aq->R D} {ds:List D} {k:Int} {d:D} (h:ρ[i]?=some (some (.lst ds))) (e:u ρ= .ok (.int k)) (e2:cI (.lst ds) (.int k)= .ok d):ixO i u ρ= .ok d:=by
 unfold ixO
 simp only[h,e,R.bF,e2]
theorem pP {u:aq->R D} {ds:List D} (e:u ρ= .ok (.lst ds)):Og u ρ= .ok (!ds.isEmpty):=by unfold Og;rw[e];rfl
theorem mj {m:Nat} {s:aq->So} {es:List Ent} {d:D} (e:s (es.map some++List.replicate m none)= .rt d):j7 m s es= .ok d:=by rw[j7,e]
noncomputable def nr (w x:Nat):List Nat:=List.range' (x - 1) (min (x+2) w - (x - 1))
theorem Le {x p:Nat} (hx:x < w):p∈nr w x↔p < w/\p<=x+1/\x<=p+1:=by
 unfold nr
 rw[List.mem_range'_1,Nat.add_sub_cancel' (Nat.le_min.mpr ⟨z0b (Nat.sub_le x 1) (Nat.le_add_right x 2),z0b (Nat.sub_le x 1) (z0e hx)⟩),Nat.lt_min]
 exact⟨λ h=>⟨h.2.2,Nat.le_of_lt_succ h.2.1,Nat.le_add_of_sub_le h.1⟩,λ h=>⟨Nat.sub_le_of_le_add h.2.2,Nat.lt_succ_of_le h.2.1,h.1⟩⟩
theorem adQ {x:Nat}:(nr w x).length<=3:=by unfold nr;rw[List.length_range'];exact akU
theorem ahB {x:Nat} (hx:x < w) (hw:w<=20):Aq [.int (x:Int),.int (w:Int)]= .ok (.lst ((nr w x).map λ (p:Nat)=>D.int (p:Int))):=by
 have e2:minD [.int ((x+2:Nat):Int),.int (w:Int)]= .ok (.int ((min (x+2) w:Nat):Int)):=by
  show R.ok (D.int (if (w:Int) < ((x+2:Nat):Int) then (w:Int) else ((x+2:Nat):Int)))=_
  congr 2
  by_cases hz:w < x+2
  ·rw[if_pos (Int.ofNat_lt.mpr hz),Nat.min_eq_right (z0e hz)]
  ·rw[if_neg (λ q=>hz (Int.ofNat_lt.mp q)),Nat.min_eq_left (Nat.le_of_not_lt hz)]
 refine cL (bM (bC (aF (x:= .int ((x - 1:Nat):Int)) (bC (aF (au rfl rfl rfl) (aB rfl)) aa3) (aB (x:= .int ((min (x+2) w:Nat):Int)) (bC (aF (x:= .int ((x+2:Nat):Int)) (au rfl rfl rfl) (aB rfl)) e2))) ?_))
 show (if _ then _ else _)=_
 have b1:x - 1<=1000:=z0b (Nat.sub_le x 1) (z0b (z0e hx) (z0b hw (by decide)))
 have b2:min (x+2) w<=1000:=z0b (Nat.min_le_right _ _) (z0b hw (by decide))
 rw[if_pos ⟨Int.le_trans (by decide) (z0a _),Int.ofNat_le.mpr b1,Int.le_trans (by decide) (z0a _),Int.ofNat_le.mpr b2⟩]
 congr 2
 unfold upto nr
 rw[Int.toNat_sub,List.range'_eq_map_range,List.map_map]
 refine List.map_congr_left λ i Z=>?_
 simp
noncomputable def iU (c:Int) (t:Wy):Wy:=(t.1,t.2.1+c,t.2.2)
noncomputable def cands (w:Nat) (C:Nat->List Wy) (T:Nat->Nat->Int) (x:Nat):List Wy:=(nr w x).flatMap λ p=>(C p).map (iU (T p (x+1 - p)))
variable {C:Nat->List Wy} {T:Nat->Nat->Int}
theorem ajs {x p:Nat} (hx:x < w) (hp:p∈nr w x) (hC:(C p).length<=1) {e5:Option Ent} {acc:List D} (hl:acc.length<=1000):
  onB [vA (.lst ((List.range w).map λ x=>cY (C x))),vA (.lst ((List.range w).map λ x=>eO (T x))),vA (.int (x:Int)),some (.lst acc),vA (.int (p:Int)),e5] =
   .nx [vA (.lst ((List.range w).map λ x=>cY (C x))),vA (.lst ((List.range w).map λ x=>eO (T x))),vA (.int (x:Int)),some (.lst (acc++((C p).map (iU (T p (x+1 - p)))).map iY)),vA (.int (p:Int)),vA (.int (T p (x+1 - p)))]:=by
 obtain⟨h1,h2,h3⟩:=(Le hx).mp hp
 refine aV (bB (bH (aF rfl (aF rfl (aB rfl))) (Ld (T:=T p) (p:=λ x=>eO (T x)) h1 (by assumption) (by assumption) rfl)) rfl) ?_
 refine aae (ds:=acc) rfl (cj (c:=iY) (h:=λ t=>iY (iU (T p (x+1 - p)) t)) (l:=C p) (gM (au rfl rfl (qw (α:=D) h1))) (by exact T5 hC) λ t ht=>?_) (by simp;exact agv hl hC) |>.trans ?_
 ·exact cM rfl (fK (aF rfl (aF (x:= .int (t.2.1+T p (x+1 - p))) (au rfl rfl rfl) (aB rfl))))
 ·rw[List.map_map];rfl
theorem aaf {x:Nat} (hx:x < w) (hC:∀p < w,(C p).length<=1):∀{ps:List Nat} {acc:List D} {e4 e5:Option Ent},(∀p∈ps,p∈nr w x)->acc.length+ps.length<=1000->
  ∃ z4 z5,forL (aK 4) onB (ps.map λ (p:Nat)=>D.int (p:Int)) [vA (.lst ((List.range w).map λ x=>cY (C x))),vA (.lst ((List.range w).map λ x=>eO (T x))),vA (.int (x:Int)),some (.lst acc),e4,e5] =
   .nx [vA (.lst ((List.range w).map λ x=>cY (C x))),vA (.lst ((List.range w).map λ x=>eO (T x))),vA (.int (x:Int)),some (.lst (acc++(ps.flatMap λ p=>(C p).map (iU (T p (x+1 - p)))).map iY)),z4,z5]
 |[],acc,e4,e5,_,_=>⟨e4,e5,by simp[Kw]⟩
 | p::ps,acc,e4,e5,hp,hl=>by
  rw[List.length_cons] at hl
  have hpn:=hp p (by simp)
  have hpw:=((Le hx).mp hpn).1
  have hc:=hC p hpw
  obtain⟨z4,z5,e⟩:=aaf hx hC (ps:=ps) (acc:=acc++((C p).map (iU (T p (x+1 - p)))).map iY) (e4:=vA (.int (p:Int))) (e5:=vA (.int (T p (x+1 - p)))) (λ q hq=>hp q (by simp[hq])) (by simp;exact agw hl hc)
  refine⟨z4,z5,jt rfl (ajs hx hpn hc (by exact aaz hl)) (e.trans ?_)⟩
  rw[List.flatMap_cons,List.map_append,List.append_assoc]
theorem adR {x:Nat} (hx:x < w) (hw:w<=20) (hC:∀p < w,(C p).length<=1):q8 [.lst ((List.range w).map λ x=>cY (C x)),.lst ((List.range w).map λ x=>eO (T x)),.int (x:Int)]= .ok (.lst ((cands w C T x).map iY)):=by
 obtain⟨z4,z5,e⟩:=aaf (T:=T) hx hC (ps:=nr w x) (acc:=[]) (e4:=none) (e5:=none) (λ p hp=>hp) (by have:=adQ (w:=w) (x:=x);simp;exact akV this)
 have hlen:eG [.lst ((List.range w).map λ x=>cY (C x))]= .ok (.int (w:Int)):=by simp[Ai,vR]
 refine cL (aV (Av rfl) (aV (oG (gM (bH (aF rfl (aB (bC (aB rfl) hlen))) (ahB hx hw))) e) (bM rfl)))
end
section
variable {n w h:Nat} {g:Nat->Int} {f:Nat->Nat->Int} {ρ:aq}
theorem Ud {i j:Int}:qb (.int i) (.int j)= .ok (.bl (decide (i=j))):=by
 rw[qb,if_pos (by simp[jF,jG,vI,vJ,vK,vL])]
 show R.ok (D.bl (fB (.int i) (.int j)))=_
 by_cases h:i=j <;> simp[aN,aO,aP,aQ,aR,aL,aJ,h]
noncomputable def cu (cs:List Wy):List Wy:=((mO (cs.map fl)).take 1).map un
noncomputable def pre (x:Nat) (t:Wy):Wy:=(t.1,t.2.1,(x:Int)::t.2.2)
theorem Ci:∀cs:List Wy,pK (cs.map iY)=some (cs.map fl)
 |[]=>rfl
 | t::cs=>by
  rw[z1h,pK,Ci cs,JN,show Ew (kI (fl t))=some (fl t) from Vk]
  rfl
theorem Vy {cs:List Wy}:∀l∈mO (cs.map fl),fl (un l)=l:=λ l hl=>by
 obtain⟨t,_,rfl⟩:=List.mem_map.mp ((lH _).mem_iff.mp hl)
 rw[aa4]
theorem Cj {cs:List Wy}:∀t∈cu cs,t∈cs:=λ t ht=>by
 obtain⟨l,hl,rfl⟩:=List.mem_map.mp ht
 have hl:=List.mem_of_mem_take hl
 obtain⟨t,h1,rfl⟩:=List.mem_map.mp ((lH _).mem_iff.mp hl)
 rw[aa4];exact h1
theorem vM {cs:List Wy}:(cu cs).length<=1:=by unfold cu;simp;exact Nat.min_le_left _ _
theorem Ds {cs:List Wy} {x:Nat} (hl:cs.length < 64) (hn:(cs.map fl).Nodup) (hp:∀t∈cs,t.2.2.length<=100):fQ 1 [.int (x:Int),.lst (cs.map iY)]= .ok (cY ((cu cs).map (pre x))):=by
 have e1:wN [.lst (cs.map iY)]= .ok (.lst ((mO (cs.map fl)).map kI)):=by
  rw[Vj,Ci]
  show (if _ then _ else _)=_
  rw[if_pos ⟨by simpa using hl,hn⟩]
 have e2:kJ ((mO (cs.map fl)).map kI) none (some 1)=(cu cs).map iY:=by
  have e3:∀{n d:Nat},HT.sIx n d (some 1)=min 1 n:=λ {n d}=>by
   show (if (1:Int) < 0 then ((1:Int)+(n:Int)).toNat else min (1:Int).toNat n)=min 1 n
   rw[if_neg (by decide)];rfl
  rw[kJ,e3,Fp,Nat.sub_zero,List.drop_zero,<-List.map_take]
  have e4:∀l:List (List Int),l.take (min 1 (l.map kI).length)=l.take 1:=λ l=>by cases l <;> simp
  rw[e4]
  unfold cu
  rw[List.map_map]
  refine List.map_congr_left λ l hl=>?_
  show kI l=iY (un l)
  rw[JN,Vy l (List.mem_of_mem_take hl)]
 have e5:cY ((cu cs).map (pre x))= .lst ((cu cs).map λ t=>iY (pre x t)):=by unfold cY;rw[List.map_map];rfl
 rw[e5]
 refine mj (bM (cj (c:=iY) (h:=λ t=>iY (pre x t)) (l:=cu cs) (gM (ds:=(cu cs).map iY) ?_) (by have:=vM (cs:=cs);exact T5 this) λ t ht=>?_))
 ·show mJ _ _ _ _=_
  unfold mJ
  rw[bC (aB rfl) e1]
  show R.ok (D.lst (kJ _ none (some 1)))=_
  rw[e2]
 ·refine cM rfl (fK (aF rfl (aF rfl (aB (x:= .tup ((((x:Int)::t.2.2)).map .int)) (au (fK (aB rfl)) rfl ?_)))))
  have:=hp t (Cj t ht)
  exact Ar (xs:=[.int (x:Int)]) (ys:=t.2.2.map .int) (by simp;exact akW this)
end
noncomputable def gW (m:Int):Int:=if m=2 then 1 else 0
noncomputable def sb (c:Int) (t:Wy):Wy:=(t.1 - c,t.2.1,t.2.2)
noncomputable def nu (x:Nat) (m:Int) (cs:List Wy):List Wy:=if m=1 then [] else ((cu cs).map (pre x)).map (sb (gW m))
section
variable {w h a y:Nat} {T:Nat->Nat->Nat->Int} {M:Nat->Nat->Int} {ρ:aq}
theorem afJ {l:List Wy} (hl:l.length<=1) {m:Int} {e0 e1 e2 e3 e4 e5 e7 e10:Option Ent} {acc:List D} (ha:acc.length<=1000):
  agM [e0,e1,e2,e3,e4,e5,some (.lst acc),e7,vA (.int m),vA (cY l),e10]= .nx [e0,e1,e2,e3,e4,e5,some (.lst (acc++[cY (l.map (sb (gW m)))])),e7,vA (.int m),vA (cY l),vA (.int (gW m))]:=by
 have e:(Ks (c7 (bin (λ ρ=>ak ρ 8) (λ Z=> .ok (.int 2)) qb)) (λ Z=> .ok (.int 1)) (λ Z=> .ok (.int 0))) [e0,e1,e2,e3,e4,e5,some (.lst acc),e7,vA (.int m),vA (cY l),e10]= .ok (.int (gW m)):=by
  unfold gW
  by_cases hm:m=2
  ·rw[if_pos hm];exact Iu (bf (au rfl rfl (by rw[Ud,decide_eq_true hm]))) rfl
  ·rw[if_neg hm];exact Ot (bf (au rfl rfl (by rw[Ud,decide_eq_false hm]))) rfl
 refine aV (bB e rfl) ?_
 have e2:cY (l.map (sb (gW m)))= .lst (l.map λ t=>iY (sb (gW m) t)):=by unfold cY;rw[List.map_map];rfl
 rw[e2]
 refine adO (ds:=acc) (cj (c:=iY) (h:=λ t=>iY (sb (gW m) t)) (l:=l) (gM rfl) (by exact T5 hl) λ t ht=>?_) rfl (by exact akX ha)
 exact cM rfl (fK (aF (x:= .int (t.1 - gW m)) (au rfl rfl rfl) (aF rfl (aB rfl))))
inductive Ben (w:Nat) (T:Nat->Nat->Nat->Int) (y:Nat):List D->(Nat->List Wy)->Prop
 |last:Ben w T y [] λ Z=>[(0,0,[])]
 |more (rs:List D) (C:Nat->List Wy):(∀p < w,(C p).length<=1)->Ben w T y (rs++[.lst ((List.range w).map λ x=>cY (C x))]) (cands w C (T (y+1)))
theorem afK {rows:List D} {cs:Nat->List Wy} (B:Ben w T y rows cs) (hy:rows≠[]->y+1 < h) {x:Nat} (hx:x < w) (hw:w<=20) (hl:(cs x).length < 64) (hn:((cs x).map fl).Nodup) (hp:∀t∈cs x,t.2.2.length<=100) {m:Int} {e1 e6 e9 e10:Option Ent}:
  agL a (fQ 1) [vA (tab w h T),e1,vA (.tup []),some (.obj (.fn a)),some (.lst rows),vA (.int (y:Int)),e6,vA (.int (x:Int)),vA (.int m),e9,e10] =
   .nx [vA (tab w h T),e1,vA (.tup []),some (.obj (.fn a)),some (.lst rows),vA (.int (y:Int)),e6,vA (.int (x:Int)),vA (.int m),vA (cY (if m=1 then [] else (cu (cs x)).map (pre x))),e10]:=by
 have th:∀(u:Option Ent),aaK (vA (.int m))=vA (.int m):=λ Z=>rfl
 by_cases hm:m=1
 ·rw[if_pos hm]
  exact fZ (bf (au rfl rfl (by rw[Ud,decide_eq_true hm]))) (bB (dR rfl) rfl)
 ·rw [if_neg hm]
  refine dB (bf (au rfl rfl (by rw[Ud,decide_eq_false hm]))) ?_
  cases B with
  | last=>
   refine fZ (dY (pP (ds:=[]) rfl)) (bB (Vx rfl (aF rfl (aB (dR (aB (fK (aF rfl (aF rfl (aB rfl)))))))) (Ds (cs:=[(0,0,[])]) hl hn hp)) rfl)
  | more rs C hC=>
   have hy:=hy (by simp)
   refine dB (dY (pP (ds:=rs++[.lst ((List.range w).map λ x=>cY (C x))]) rfl) |>.trans (by simp)) (bB (Vx rfl (aF rfl (aB (bH (aF (x:= .lst ((List.range w).map λ x=>cY (C x))) (ajr rfl (k:= -1) rfl ?_) (aF (au rfl (au (x:= .int (y:Int)) (y:= .int 1) (r:= .ok (.int ((y+1:Nat):Int))) rfl rfl rfl) (qw (α:=D) hy)) (aB rfl))) (adR (C:=C) (T:=T (y+1)) hx hw hC)))) (Ds hl hn hp)) rfl)
   show (match (L2.atI _ _:Option D) with |some d=>R.ok d |none=>R.bad)=_
   have:L2.atI (rs++[D.lst ((List.range w).map λ x=>cY (C x))]) (-1)=some (.lst ((List.range w).map λ x=>cY (C x))):=by
    unfold L2.atI ixN
    rw[if_neg (by decide),if_pos (by simp;exact akY)]
    simp only[z1d,List.length_singleton,Option.bind_some]
    rw[show ((-1:Int)+((rs.length+1:Nat):Int)).toNat=rs.length by exact akZ,List.getElem?_append_right (z0g _)]
    simp
   rw[this]
end
noncomputable def Ax (w h:Nat) (T:Nat->Nat->Nat->Int) (M:Nat->Nat->Int):Nat->Nat->List Wy
 |0,_=>[(0,0,[])]
 |k+1,x=>cands w (λ p=>nu p (M (h - 1 - k) p) (Ax w h T M k p)) (T (h - 1 - k)) x
noncomputable def qN (w h:Nat) (T:Nat->Nat->Nat->Int) (M:Nat->Nat->Int) (k x:Nat):List Wy:=nu x (M (h - 1 - k) x) (Ax w h T M k x)
section
variable {w h a:Nat} {T:Nat->Nat->Nat->Int} {M:Nat->Nat->Int} {ρ:aq}
theorem rC {x:Nat}:Ax w h T M 0 x=[(0,0,[])]:=rfl
theorem rE {k x:Nat}:Ax w h T M (k+1) x=cands w (qN w h T M k) (T (h - 1 - k)) x:=rfl
theorem rF {x:Nat} {m:Int} {cs:List Wy}:(nu x m cs).length<=1:=by
 unfold nu
 split
 ·simp
 ·have:=vM (cs:=cs);simpa using this
theorem pF {x:Nat} {m:Int} {cs:List Wy} {t:Wy} (h:t∈nu x m cs):∃u∈cs,t=sb (gW m) (pre x u):=by
 unfold nu at h
 split at h
 ·simp at h
 ·rw[List.map_map] at h
  obtain⟨u,hu,rfl⟩:=List.mem_map.mp h
  exact⟨u,Cj u hu,rfl⟩
theorem JQ {α β:Type} {F:α->List β}:∀{l:List α},(∀a∈l,(F a).length<=1)->(l.flatMap F).length<=l.length
 |[],_=>by simp
 | a::l,h=>by
  rw[List.flatMap_cons,z1d,List.length_cons]
  have h1:=h a (by simp)
  have h2:=JQ (l:=l) λ b hb=>h b (by simp[hb])
  exact ak0 h1 h2
theorem ahC:∀{k x:Nat},(Ax w h T M k x).length < 64
 |0,_=>by simp[rC]
 | k+1,x=>by
  rw[rE]
  unfold cands
  have:=JQ (F:=λ p=>(qN w h T M k p).map (iU (T (h - 1 - k) p (x+1 - p)))) (l:=nr w x) λ p Z=>by rw[z1g];exact rF
  have h2:=adQ (w:=w) (x:=x)
  exact ak1 this h2
theorem adS:∀{k x:Nat},∀t∈Ax w h T M k x,t.2.2.length=k
 |0,_,t,ht=>by simp[rC] at ht;subst ht;rfl
 | k+1,x,t,ht=>by
  rw[rE] at ht
  obtain⟨p,_,hp⟩:=List.mem_flatMap.mp ht
  obtain⟨u,hu,rfl⟩:=List.mem_map.mp hp
  obtain⟨v,hv,rfl⟩:=pF hu
  show (((p:Nat):Int)::v.2.2).length=k+1
  rw[List.length_cons,adS v hv]
theorem Vz:∀{k x:Nat},((Ax w h T M k x).map fl).Nodup
 |0,_=>by simp[rC]
 | k +1,x=>by
  rw[rE]
  unfold cands List.Nodup
  rw[List.pairwise_map,List.pairwise_flatMap]
  refine⟨λ p Z=>?_,?_⟩
  ·have hl:((qN w h T M k p).map (iU (T (h - 1 - k) p (x+1 - p)))).length<=1:=by rw[z1g];exact rF
   match (qN w h T M k p).map (iU (T (h - 1 - k) p (x+1 - p))),hl with
   |[],_=>exact .nil
   |[_],_=>simp
   |_::_::_,hl=>simp at hl
  ·have nd:(nr w x).Nodup:=List.nodup_range'
   refine nd.imp λ {p q} hpq t ht u hu z=>?_
   obtain⟨t',ht',rfl⟩:=List.mem_map.mp ht
   obtain⟨u',hu',rfl⟩:=List.mem_map.mp hu
   obtain⟨t2,_,rfl⟩:=pF ht'
   obtain⟨u2,_,rfl⟩:=pF hu'
   have:=Vw z
   have h2:((p:Nat):Int)::t2.2.2=((q:Nat):Int)::u2.2.2:=congrArg (λ t:Wy=>t.2.2) this
   have h3:((p:Nat):Int)=((q:Nat):Int):=(List.cons.inj h2).1
   exact hpq (by exact agx h3)
noncomputable def yZ (w h:Nat) (T:Nat->Nat->Nat->Int) (M:Nat->Nat->Int) (k:Nat):D:= .lst ((List.range w).map λ x=>cY (qN w h T M k x))
theorem aag {y:Nat} {rows:List D} {cs:Nat->List Wy} (B:Ben w T y rows cs) (hy:rows≠[]->y+1 < h) (hw:w<=20) (hl:∀x,(cs x).length < 64) (hn:∀x,((cs x).map fl).Nodup) (hp:∀x,∀t∈cs x,t.2.2.length<=100) {e1:Option Ent}:∀{xs:List Nat} {acc:List D} {e7 e8 e9 e10:Option Ent},(∀x∈xs,x < w)->acc.length+xs.length<=1000->
  ∃ z7 z8 z9 Dt,forL (gQ (gR 2 (bO (aK 7) (bO (aK 8) nilG)))) (inW a (fQ 1)) (xs.map λ (x:Nat)=>D.tup [.int (x:Int),.int (M y x)]) [vA (tab w h T),e1,vA (.tup []),some (.obj (.fn a)),some (.lst rows),vA (.int (y:Int)),some (.lst acc),e7,e8,e9,e10] =
   .nx [vA (tab w h T),e1,vA (.tup []),some (.obj (.fn a)),some (.lst rows),vA (.int (y:Int)),some (.lst (acc++xs.map λ x=>cY (nu x (M y x) (cs x)))),z7,z8,z9,Dt]
 |[],acc,e7,e8,e9,e10,_,_=>⟨e7,e8,e9,e10,by simp[Kw]⟩
 | x ::xs,acc,e7,e8,e9,e10,hx,hle=>by
  rw[List.length_cons] at hle
  have hxw:=hx x (by simp)
  obtain⟨z7,z8,z9,Dt,e⟩:=aag B hy hw hl hn hp (e1:=e1) (xs:=xs) (acc:=acc++[cY (nu x (M y x) (cs x))]) (e7:=vA (.int (x:Int))) (e8:=vA (.int (M y x))) (e9:=vA (cY (if M y x=1 then [] else (cu (cs x)).map (pre x)))) (e10:=vA (.int (gW (M y x)))) (λ q hq=>hx q (by simp[hq])) (by simp;exact agu hle)
  refine⟨z7,z8,z9,Dt,jt rfl (aV (afK B hy hxw hw (hl x) (hn x) (hp x)) (afJ ?_ (by exact aaz hle) |>.trans ?_)) (e.trans ?_)⟩
  ·split
   ·simp
   ·have:=vM (cs:=cs x);simpa using this
  ·have:nu x (M y x) (cs x)=(if M y x=1 then [] else (cu (cs x)).map (pre x)).map (sb (gW (M y x))):=by unfold nu;split <;> rfl
   rw[this]
  ·rw[z1h,List.append_assoc];rfl
noncomputable def dn (r:Nat):List D:=(List.range r).map λ (i:Nat)=>D.int ((r:Int) - 1 - (i:Int))
theorem ahD (r:Nat):dn (r+1)=D.int (r:Int)::dn r:=by
 unfold dn
 rw[List.range_succ_eq_map,z1h,List.map_map]
 congr 1
 ·congr 1;exact ak2
 ·refine List.map_congr_left λ i Z=>?_
  show D.int _=D.int _
  congr 1
  simp only[Nat.succ_eq_add_one]
  exact ak3
theorem ajt {k y:Nat} (hk:k < h) (hy:y=h - 1 - k):Ben w T y ((List.range k).map (yZ w h T M)) (Ax w h T M k):=by
 cases k with
 |zero=>exact .last
 | succ k=>
  rw[List.range_succ,List.map_append]
  have e:Ax w h T M (k+1)=cands w (qN w h T M k) (T (y+1)):=by
   funext x
   rw[rE,show y+1=h - 1 - k by exact ak4 hk hy]
  rw[e]
  exact .more _ _ λ p Z=>rF
theorem aju {k y:Nat} (hk:k < h) (hy:y=h - 1 - k) (hh:h<=20) (hw:w<=20) {e6 e7 e8 e9 e10:Option Ent}:∃z6 z7 z8 z9 Dt,afG a (fQ 1) [vA (tab w h T),vA (bN w h M),vA (.tup []),some (.obj (.fn a)),some (.lst ((List.range k).map (yZ w h T M))),vA (.int (y:Int)),e6,e7,e8,e9,e10] =
  .nx [vA (tab w h T),vA (bN w h M),vA (.tup []),some (.obj (.fn a)),some (.lst ((List.range (k+1)).map (yZ w h T M))),vA (.int (y:Int)),z6,z7,z8,z9,Dt]:=by
 obtain⟨z7,z8,z9,Dt,e⟩:=aag (h:=h) (a:=a) (M:=M) (e1:=vA (bN w h M)) (ajt (w:=w) (T:=T) (M:=M) hk hy) (λ hne=>by
  have:k≠0:=λ z=>hne (by rw[z];rfl)
  exact ak6 hy hk this) hw (λ x=>ahC) (λ x=>Vz) (λ x t ht=>by rw[adS t ht];exact ak5 hk hh) (xs:=List.range w) (acc:=[]) (e7:=e7) (e8:=e8) (e9:=e9) (e10:=e10) (λ x hx=>z2e hx) (by simp;exact agy hw)
 refine⟨vA (.lst ([]++(List.range w).map λ x=>cY (nu x (M y x) (Ax w h T M k x)))),z7,z8,z9,Dt,aV (Av rfl) (aV (oG (Io (aB (au rfl rfl (tQ (by exact ak8 hy hk)))) rfl) e) ((ahA (ds:=(List.range k).map (yZ w h T M)) (es:=[]++(List.range w).map λ x=>cY (nu x (M y x) (Ax w h T M k x))) rfl rfl (by rw[z1g,z2d];exact ak7 hk hh)).trans ?_))⟩
 rw[List.range_succ,List.map_append]
 have er:((List.range w).map λ x=>cY (nu x (M y x) (Ax w h T M k x)))=(List.range w).map λ x=>cY (qN w h T M k x):=by
  refine List.map_congr_left λ x Z=>?_
  unfold qN
  rw[hy]
 simp only[List.nil_append]
 rw[er]
 rfl
theorem VB (hh:h<=20) (hw:w<=20):∀{r k:Nat} {e5 e6 e7 e8 e9 e10:Option Ent},k+r=h->∃z5 z6 z7 z8 z9 Dt,forL (aK 5) (afG a (fQ 1)) (dn r) [vA (tab w h T),vA (bN w h M),vA (.tup []),some (.obj (.fn a)),some (.lst ((List.range k).map (yZ w h T M))),e5,e6,e7,e8,e9,e10] =
  .nx [vA (tab w h T),vA (bN w h M),vA (.tup []),some (.obj (.fn a)),some (.lst ((List.range h).map (yZ w h T M))),z5,z6,z7,z8,z9,Dt]
 |0,k,e5,e6,e7,e8,e9,e10,hk=>⟨e5,e6,e7,e8,e9,e10,by rw[show k=h by assumption];rfl⟩
 | r+1,k,e5,e6,e7,e8,e9,e10,hk=>by
  refine bc λ zQ=>?_
  obtain⟨y6,y7,y8,y9,y10,e1⟩:=aju (a:=a) (w:=w) (T:=T) (M:=M) (k:=k) (y:=r) (by exact ala hk) (by exact ak9 hk) hh hw (e6:=e6) (e7:=e7) (e8:=e8) (e9:=e9) (e10:=e10)
  obtain⟨z5,z6,z7,z8,z9,Dt,e2⟩:=VB hh hw (r:=r) (k:=k+1) (e5:=vA (.int (r:Int))) (e6:=y6) (e7:=y7) (e8:=y8) (e9:=y9) (e10:=y10) (by exact alb hk)
  apply zQ;clear zQ
  rw[ahD]
  exact⟨z5,z6,z7,z8,z9,Dt,jt rfl e1 e2⟩
theorem afL (hh:h<=20) (hw:w<=20):vX a (fQ 1) [tab w h T,bN w h M,.tup []]= .ok (.lst ((List.range h).map (yZ w h T M)).reverse):=by
 obtain⟨z5,z6,z7,z8,z9,Dt,e⟩:=VB (a:=a) (w:=w) (T:=T) (M:=M) hh hw (r:=h) (k:=0) (e5:=none) (e6:=none) (e7:=none) (e8:=none) (e9:=none) (e10:=none) (by exact Nat.add_comm _ _)
 have er:Vf [.int (h:Int)]= .ok (dn h):=by
  show (if _ then _ else _)=_
  rw[if_pos (by exact alc hh)]
  rfl
 refine mj (aV (Av rfl) (aV (oG ?_ e) (bM ?_)))
 ·show ((ao (aH eG (ao (λ ρ=>ak ρ 1) (λ Z=> .ok []))) (λ Z=> .ok [])) _).bind Vf=_
  rw[aB (bC (aB rfl) Im)]
  exact er
 ·show T9 _ _=_
  unfold T9
  rfl
end
section
variable {w h:Nat} {T:Nat->Nat->Nat->Int} {M:Nat->Nat->Int} {f:Nat->Nat->Int} {m:Str} {ρ:aq}
theorem ahE (hh:h<=20) (hw:w<=20):oK [tab w h T,bN w h M,.int 1]= .ok (.lst ((List.range h).map (yZ w h T M)).reverse):=by
 refine mj ?_
 show (match allOf (λ x=>vX x (fQ 1) [tab w h T,bN w h M,.tup []]) with | .ok r=>So.rt r |_=> .bad)=_
 rw[afy λ a=>afL hh hw]
theorem adT {F:Nat->D}:((List.range h).map F).reverse=(List.range h).map λ y=>F (h - 1 - y):=by
 apply List.ext_getElem?
 intro i
 by_cases hi:i < h
 ·rw[List.getElem?_reverse (by simpa using hi),z2b,z2b,List.getElem?_range hi,z1g,z2d,List.getElem?_range (by exact ald hi)]
  rfl
 ·rw[List.getElem?_eq_none (by simp;exact Nat.not_lt.mp hi),List.getElem?_eq_none (by simp;exact Nat.not_lt.mp hi)]
theorem mul_one {d:D} {k:Nat} (h1:1<=k) (vH:k<=20):Jy (.tup [d]) (.int (k:Int))= .ok (.tup ((List.range k).map λ Z=>d)):=by
 rw[Jy,if_pos ⟨by simp,by omega,by omega,by simp;omega⟩]
 congr 2
 rw[show ((k:Nat):Int).toNat=k by omega]
 clear h1 vH
 induction k with
 |zero=>rfl
 |succ k ih=>rw[List.replicate_succ,List.flatten_cons,ih,List.range_succ_eq_map,z1h,List.map_map];rfl
theorem Jb (o:Ok w h f):ji [bN w h f]= .ok (bN w h λ Z Z=>0):=
 cL (bM (au (fK (aB (au (fK (aB rfl)) (len0 o rfl) (mul_one o.w1 o.w2)))) (bC (aB rfl) Im) (mul_one o.h1 o.h2)))
theorem Rk (o:Ok w h f):iT [.non,bN w h f]= .ok (bN w h λ Z Z=>0):=
 cL (jB (fZ (bf (b:=true) (au rfl rfl rfl)) (bM (bH (aB rfl) (Jb o)))))
theorem JR (hm:m= "worth"\/m= "joins") (o:Ok w h f):jO [bN w h f,.str m]= .ok (tab w h (tbl m w h f)):=by
 rcases hm with rfl |rfl
 ·exact ahx o
 ·exact ahy o
section
variable {ρ:aq}
theorem lK {F:List D->R D} {n j:Nat} {sel:List (Sum Nat D)} {fa fk:aq->R (List D)} {ds zs:List D} {r:R D} (e1:fa ρ= .ok ds) (e2:fk ρ= .ok zs) (e3:F (ds++pickK .non sel zs)=r) (hl:(ds++pickK .non sel zs).length=n:=by rfl) (hj:zs.length=j:=by rfl):oH F n j sel fa fk ρ=r:=by
 unfold oH
 rw[e1,R.bF,e2,R.bF,if_pos hj,okN,if_pos hl,e3]
end
theorem aah {d:D} (hm:m= "worth"\/m= "joins") (o:Ok w h f) (e:iT [d,bN w h f]= .ok (bN w h M)):qu [bN w h f,.str m,d]= .ok (.tup [tab w h (tbl m w h f),bN w h M]):=
 mj (aV (HW (bH (aB rfl) (Z9 o))) (aV (HW (lK (aB rfl) rfl (Aw hm))) (aV (bB (bH (aF rfl (aB rfl)) e) rfl) (bM (fK (aF (bH (aF rfl (aB rfl)) (JR hm o)) (aB rfl)))))))
end
noncomputable abbrev lt (a b:Wy):Bool:=fG (fl a) (fl b)
section
variable {w h:Nat} {T:Nat->Nat->Nat->Int} {M:Nat->Nat->Int}
theorem adU {c:Int} {a b:Wy}:lt (iU c a) (iU c b)=lt a b:=by
 obtain⟨a1,a2,a3⟩:=a;obtain⟨b1,b2,b3⟩:=b
 simp only[lt,fl,iU,fG]
 by_cases e1:a1=b1
 ·rw[if_pos e1,if_pos e1]
  by_cases e:a2=b2
  ·rw[if_pos (by omega),if_pos e]
  ·rw[if_neg (by omega),if_neg e];exact decide_eq_decide.mpr (by omega)
 ·rw[if_neg e1,if_neg e1]
theorem alR {c:Int} {a b:Wy}:lt (sb c a) (sb c b)=lt a b:=by
 obtain⟨a1,a2,a3⟩:=a;obtain⟨b1,b2,b3⟩:=b
 simp only[lt,fl,sb,fG]
 by_cases e:a1=b1
 ·rw[if_pos (by omega),if_pos e]
 ·rw[if_neg (by omega),if_neg e];exact decide_eq_decide.mpr (by omega)
theorem ajv {x:Nat} {a b:Wy}:lt (pre x a) (pre x b)=lt a b:=by
 obtain⟨a1,a2,a3⟩:=a;obtain⟨b1,b2,b3⟩:=b
 simp only[lt,fl,pre,fG,if_true]
theorem VD {a b c:Wy} (h1:lt b a=false) (h2:lt c b=false):lt c a=false:=by
 cases z:lt c a with
 |false=>rfl
 | true=>
  by_cases e:fl b=fl a
  ·have h2:fG (fl c) (fl b)=false:=h2
   rw[e] at h2;exact h2.symm.trans z |>.symm
  ·have:=ni z (Ao e h1)
   exact (this.symm.trans h2)
theorem adV {a b:Wy} (h1:lt a b=false) (h2:lt b a=false):a=b:=by
 by_cases e:fl a=fl b
 ·exact Vw e
 ·have h3:fG (fl b) (fl a)=true:=Ao e h1
  exact absurd (h3.symm.trans h2) (by decide)
theorem wY {cs:List Wy} (hn:(cs.map fl).Nodup) (hne:cs≠[]):∃v,cu cs=[v]/\v∈cs/\∀u∈cs,lt u v=false:=by
 have hr:=Eu hn
 cases es:mO (cs.map fl) with
 | nil=>
  have:=(lH (cs.map fl)).length_eq
  rw[es,z1g] at this
  exact absurd (List.length_eq_zero_iff.mp this.symm) hne
 | cons l ls=>
  have ef:cu cs=[un l]:=by unfold cu;rw[es];rfl
  rw[es] at hr
  obtain⟨hr1,_⟩:=List.pairwise_cons.mp hr
  have hl:l∈mO (cs.map fl):=by rw[es];exact List.mem_cons_self
  have hul:fl (un l)=l:=Vy l hl
  refine⟨un l,ef,Cj _ (by rw[ef];exact List.mem_cons_self),λ u hu=>?_⟩
  have hm:fl u∈mO (cs.map fl):=(lH _).mem_iff.mpr (List.mem_map_of_mem hu)
  rw[es] at hm
  show fG (fl u) (fl (un l))=false
  rw[hul]
  rcases List.mem_cons.mp hm with z |z
  ·rw[z];exact pJ _
  ·cases q:fG (fl u) l with
   |false=>rfl
   |true=>have:=ni q (hr1 _ z);rw[pJ] at this;injection this
noncomputable def vl (T:Nat->Nat->Nat->Int) (M:Nat->Nat->Int):Nat->List Nat->Wy
 |_,[]=>(0,0,[])
 |y,[x]=>sb (gW (M y x)) (pre x (0,0,[]))
 |y,x::p::l=>sb (gW (M y x)) (pre x (iU (T (y+1) p (x+1 - p)) (vl T M (y+1) (p::l))))
noncomputable def Pa (w:Nat) (M:Nat->Nat->Int):Nat->List Nat->Prop
 |_,[]=>True
 |y,[x]=>x < w/\M y x≠1
 |y,x::p::l=>x < w/\M y x≠1/\p<=x+1/\x<=p+1/\Pa w M (y+1) (p::l)
theorem Pa.lt {y x:Nat} {l:List Nat} (h:Pa w M y (x::l)):x < w:=by
 cases l with
 |nil=>exact h.1
 |cons p l=>exact h.1
theorem Pa.ne {y x:Nat} {l:List Nat} (h:Pa w M y (x::l)):M y x≠1:=by
 cases l with
 |nil=>exact h.2
 |cons p l=>exact h.2.1
theorem aai {x:Nat} {m:Int} {cs:List Wy} {t:Wy} (h:t∈nu x m cs):m≠1:=λ e=>by
 unfold nu at h
 rw[if_pos e] at h
 cases h
theorem adW {h k:Nat} (hk:k+1 < h):h - 1 - k=h - 1 - (k+1)+1:=by exact ale hk
theorem Rn:∀{k x:Nat} {t:Wy},x < w->k < h->t∈qN w h T M k x->∃l,l.length=k/\Pa w M (h - 1 - k) (x::l)/\t=vl T M (h - 1 - k) (x::l)
 | 0,x,t,hx,hk,ht=>by
  refine bc λ zQ=>?_
  obtain⟨u,hu,e⟩:=pF ht
  apply zQ;clear zQ
  have hu:u=(0,0,[]):=by simpa[rC] using hu
  subst hu
  exact⟨[],rfl,⟨hx,aai ht⟩,e⟩
 | k+1,x,t,hx,hk,ht=>by
  refine bc λ zQ=>?_
  obtain⟨u,hu,e⟩:=pF ht
  apply zQ;clear zQ
  have hm:=aai ht
  rw[rE] at hu
  refine bc λ zQ=>?_
  obtain⟨p,hp,hu⟩:=List.mem_flatMap.mp hu
  obtain⟨v,hv,rfl⟩:=List.mem_map.mp hu
  obtain⟨h1,h2,h3⟩:=(Le hx).mp hp
  obtain⟨l,hl,hP,hvl⟩:=Rn h1 (by exact z0e hk) hv
  apply zQ;clear zQ
  have ey:h - 1 - k=h - 1 - (k+1)+1:=adW hk
  rw[ey] at hP hvl e
  exact⟨p::l,by rw[List.length_cons,hl],⟨hx,hm,h2,h3,hP⟩,by rw[e,hvl];rfl⟩
theorem Ro {x:Nat} {m:Int} {cs:List Wy} {v:Wy} (hm:m≠1) (e:cu cs=[v]):nu x m cs=[sb (gW m) (pre x v)]:=by
 unfold nu
 rw[if_neg hm,e];rfl
theorem Rp:∀{k x:Nat} {l:List Nat},l.length=k->k < h->Pa w M (h - 1 - k) (x::l)->∃t∈qN w h T M k x,lt (vl T M (h - 1 - k) (x::l)) t=false
 | 0,x,l,hl,hk,hP=>by
  cases List.length_eq_zero_iff.mp hl
  obtain⟨v,ev,hv,_⟩:=wY (Vz (w:=w) (h:=h) (T:=T) (M:=M) (k:=0) (x:=x)) (by simp[rC])
  have hv:v=(0,0,[]):=by simpa[rC] using hv
  subst hv
  exact⟨_,by unfold qN;rw[Ro hP.ne ev];exact List.mem_cons_self,pJ _⟩
 | k + 1,x,l,hl,hk,hP=>by
  cases l with
  |nil=>cases hl
  | cons p l=>
   have ey:h - 1 - k=h - 1 - (k+1)+1:=adW hk
   obtain⟨hx,hm,h2,h3,hP'⟩:=hP
   have hl:l.length=k:=by simpa using hl
   rw[<-ey] at hP'
   obtain⟨t,ht,hlt⟩:=Rp hl (by omega) hP'
   have hu:iU (T (h - 1 - k) p (x+1 - p)) t∈Ax w h T M (k+1) x:=by
    rw[rE]
    exact List.mem_flatMap.mpr ⟨p,(Le hx).mpr ⟨hP'.lt,h2,h3⟩,List.mem_map_of_mem ht⟩
   obtain⟨v,ev,hv,hle⟩:=wY (Vz (w:=w) (h:=h) (T:=T) (M:=M) (k:=k+1) (x:=x)) (List.ne_nil_of_mem hu)
   refine⟨_,by unfold qN;rw[Ro hm ev];exact List.mem_cons_self,?_⟩
   show lt (sb _ (pre x (iU (T (h - 1 - (k+1)+1) p (x+1 - p)) (vl T M (h - 1 - (k+1)+1) (p::l))))) _=false
   rw[alR,ajv,<-ey]
   exact VD (hle _ hu) (by rw[adU];exact hlt)
noncomputable def topC (w h:Nat) (T:Nat->Nat->Nat->Int) (M:Nat->Nat->Int):List Wy:=(List.range w).flatMap λ x=>(qN w h T M (h - 1) x).map (iU (T 0 x 1))
theorem afM:(topC w h T M).length<=w:=by
 have:=JQ (F:=λ x=>(qN w h T M (h - 1) x).map (iU (T 0 x 1))) (l:=List.range w) λ p Z=>by rw[z1g];exact rF
 rw[z2d] at this;exact this
theorem aaj:((topC w h T M).map fl).Nodup:=by
 unfold topC List.Nodup
 rw[List.pairwise_map,List.pairwise_flatMap]
 refine⟨λ p Z=>?_,?_⟩
 ·have hl:((qN w h T M (h - 1) p).map (iU (T 0 p 1))).length<=1:=by rw[z1g];exact rF
  match (qN w h T M (h - 1) p).map (iU (T 0 p 1)),hl with
  |[],_=>exact .nil
  |[_],_=>simp
  |_::_::_,hl=>simp at hl
 ·have nd:(List.range w).Nodup:=List.nodup_range
  refine nd.imp λ {p q} hpq t ht u hu z=>?_
  obtain⟨t',ht',rfl⟩:=List.mem_map.mp ht
  obtain⟨u',hu',rfl⟩:=List.mem_map.mp hu
  obtain⟨t2,_,rfl⟩:=pF ht'
  obtain⟨u2,_,rfl⟩:=pF hu'
  have:=Vw z
  have h2:((p:Nat):Int)::t2.2.2=((q:Nat):Int)::u2.2.2:=congrArg (λ t:Wy=>t.2.2) this
  have h3:((p:Nat):Int)=((q:Nat):Int):=(List.cons.inj h2).1
  exact hpq (by exact agx h3)
noncomputable def gn (M:Nat->Nat->Int) (h:Nat) (s:Nat->Nat):Int:=((List.range h).map λ y=>gW (M y (s y))).sum
noncomputable def wS (T:Nat->Nat->Nat->Int) (M:Nat->Nat->Int) (h:Nat) (s:Nat->Nat):Wy:=(-gn M h s,cost h T s,(List.range h).map λ y=>((s y:Nat):Int))
structure Ft (w h:Nat) (M:Nat->Nat->Int) (s:Nat->Nat):Prop where
 sm:Cg w h s
 ne:∀y < h,M y (s y)≠1
theorem ajw {s:Nat->Nat}:∀{k y:Nat},vl T M y ((List.range' y (k+1)).map s)=(-((List.range' y (k+1)).map λ y=>gW (M y (s y))).sum,((List.range' (y+1) k).map λ y=>fare T s y).sum,(List.range' y (k+1)).map λ y=>((s y:Nat):Int))
 | 0,y=>by
  show (0 - gW (M y (s y)),(0:Int),[((s y:Nat):Int)])=(-(gW (M y (s y))+0),0,[((s y:Nat):Int)])
  rw[show 0 - gW (M y (s y))= -(gW (M y (s y))+0) by exact alf]
 | k +1,y=>by
  have ih:=ajw (s:=s) (k:=k) (y:=y+1)
  rw[List.range'_succ (s:=y),z1h,z1h,z1h,List.sum_cons]
  rw[List.range'_succ (s:=y+1),z1h,z1h,z1h,List.sum_cons] at ih |-
  show sb _ (pre _ (iU _ (vl T M (y+1) _)))=_
  rw[ih]
  simp only[sb,pre,iU]
  refine Prod.ext ?_ (Prod.ext ?_ rfl)
  ·show -_ - gW _= -_;exact alg
  ·rw[z1h,List.sum_cons]
   show _+T (y+1) (s (y+1)) (s y+1 - s (y+1))=T (y+1) (s (y+1)) (s y+1 - s (y+1))+_
   rw[Int.add_comm]
theorem ajx {s:Nat->Nat} (h1:1<=h):iU (T 0 (s 0) 1) (vl T M 0 ((List.range h).map s))=wS T M h s:=by
 obtain⟨k,rfl⟩:∃k,h=k+1:=⟨h - 1,by exact aaA h1⟩
 rw[List.range_eq_range',ajw]
 simp only[iU,wS,gn,cost]
 refine Prod.ext ?_ (Prod.ext ?_ ?_)
 ·rw[List.range_eq_range']
 ·show ((List.range' (0+1) k).map λ y=>fare T s y).sum+T 0 (s 0) 1=T 0 (s 0) 1+((List.range (k+1 - 1)).map λ y=>fare T s (y+1)).sum
  rw[Int.add_comm,Nat.add_sub_cancel,List.range'_eq_map_range,List.map_map]
  congr 3
  funext i
  show fare T s (0+1+i)=fare T s (i+1)
  rw[show 0+1+i=i+1 by exact Nat.add_comm _ _]
 ·rw[List.range_eq_range']
theorem ajy {s : Nat -> Nat} : ∀ {k y : Nat},Pa w M y ((List.range' y (k+1)).map s)↔(∀z,y<=z->z<=y+k->s z < w/\M z (s z)≠1)/\∀z,y<=z->z < y+k->s (z+1)<=s z+1/\s z<=s (z+1)+1
 | 0, y => ⟨λ h => ⟨λ z h1 h2 => by have:z=y:=by exact alh h2 h1
                                    subst this;exact h,λ z h1 h2=>by exact ali h2 h1⟩,λ h=>h.1 y (z0g _) (z0g _)⟩
 | k + 1,y=>by
  have ih:=ajy (s:=s) (k:=k) (y:=y+1)
  rw[List.range'_succ (s:=y),z1h]
  rw[List.range'_succ (s:=y+1),z1h] at ih |-
  constructor
  ·rintro⟨h1,h2,h3,h4,h5⟩
   obtain⟨q1,q2⟩:=ih.mp h5
   refine⟨λ z z1 z2=>?_,λ z z1 z2=>?_⟩
   ·by_cases e:z=y
    ·subst e;exact⟨h1,h2⟩
    ·exact q1 z (by exact agz z1 e) (by exact alj z2)
   ·by_cases e:z=y
    ·subst e;exact⟨h3,h4⟩
    ·exact q2 z (by exact agz z1 e) (by exact aiE z2)
  ·rintro⟨q1,q2⟩
   have a:=q1 y (z0g _) (by exact Nat.le_add_right _ _)
   have b:=q2 y (z0g _) (by exact alk)
   exact⟨a.1,a.2,b.1,b.2,ih.mpr ⟨λ z z1 z2=>q1 z (by exact z0e z1) (by exact ae5 z2),λ z z1 z2=>q2 z (by exact z0e z1) (by exact alm z2)⟩⟩
theorem adX {s:Nat->Nat} (h1:1<=h):Pa w M 0 ((List.range h).map s)↔Ft w h M s:=by
 obtain⟨k,rfl⟩:∃k,h=k+1:=⟨h - 1,by exact aaA h1⟩
 rw[List.range_eq_range',ajy]
 constructor
 ·rintro⟨a,b⟩
  exact⟨⟨λ y hy=>(a y (by exact Nat.zero_le _) (by exact agA hy)).1,λ y hy=>b y (by exact Nat.zero_le _) (by exact aln hy)⟩,λ y hy=>(a y (by exact Nat.zero_le _) (by exact agA hy)).2⟩
 ·rintro⟨⟨a,b⟩,c⟩
  exact⟨λ z Z z2=>⟨a z (by exact agB z2),c z (by exact agB z2)⟩,λ z Z z2=>b z (by exact alo z2)⟩
theorem ahF (l:List Nat):∃s:Nat->Nat,l=(List.range l.length).map s:=
 ⟨λ y=>l.getD y 0,by
  apply List.ext_getElem?
  intro i
  rw[z2b]
  by_cases hi:i < l.length
  ·rw[List.getElem?_range hi];simp[hi]
  ·rw[List.getElem?_eq_none (by exact Nat.not_lt.mp hi),List.getElem?_eq_none (by simp;exact Nat.not_lt.mp hi)];rfl⟩
theorem ahG (h1:1<=h) {t:Wy} (ht:t∈topC w h T M):∃s,Ft w h M s/\t=wS T M h s:=by
 obtain⟨x,hx,hu⟩:=List.mem_flatMap.mp ht
 obtain⟨u,hv,rfl⟩:=List.mem_map.mp hu
 obtain⟨l,hl,hP,rfl⟩:=Rn (k:=h - 1) (h:=h) (z2e hx) (by exact aiG h1) hv
 rw[show h - 1 - (h - 1)=0 by exact alp] at hP |-
 obtain⟨s,hs⟩:=ahF (x::l)
 have hlen:(x::l).length=h:=by rw[List.length_cons,hl];exact Nat.sub_add_cancel h1
 rw[hlen] at hs
 have h0:s 0=x:=by
  obtain⟨k,rfl⟩:∃k,h=k+1:=⟨h - 1,by exact aaA h1⟩
  rw[List.range_succ_eq_map,z1h] at hs
  exact (List.cons.inj hs).1.symm
 rw[hs] at hP |-
 refine⟨s,(adX h1).mp hP,?_⟩
 rw[<-ajx h1,h0]
theorem adY (h1:1<=h) {s:Nat->Nat} (q:Ft w h M s):∃t∈topC w h T M,lt (wS T M h s) t=false:=by
 have hP:=(adX h1).mpr q
 rw[<-ajx h1]
 obtain⟨k,rfl⟩:∃k,h=k+1:=⟨h - 1,by omega⟩
 have e:(List.range (k+1)).map s=s 0::(List.range k).map λ y=>s (y+1):=by
  rw[List.range_succ_eq_map,z1h,List.map_map];rfl
 rw[e] at hP |-
 obtain⟨t,ht,hl⟩:=Rp (w:=w) (h:=k+1) (T:=T) (M:=M) (k:=k+1 - 1) (x:=s 0) (l:=(List.range k).map λ y=>s (y+1)) (by simp) (by omega) (by rw[show k+1 - 1 - (k+1 - 1)=0 by omega];exact hP)
 rw[show k+1 - 1 - (k+1 - 1)=0 by omega] at hl
 exact⟨_,List.mem_flatMap.mpr ⟨s 0,List.mem_range.mpr (q.sm.lt 0 (by omega)),List.mem_map_of_mem ht⟩,by rw[adU];exact hl⟩
noncomputable def Bst (w h:Nat) (T:Nat->Nat->Nat->Int) (M:Nat->Nat->Int) (s:Nat->Nat):Prop:=Ft w h M s/\∀s',Ft w h M s'->lt (wS T M h s') (wS T M h s)=false
theorem least (h1:1<=h):(cu (topC w h T M)=[]/\∀s,¬Ft w h M s)\/∃s,cu (topC w h T M)=[wS T M h s]/\Bst w h T M s:=by
 by_cases hne:topC w h T M=[]
 ·left
  refine⟨by rw[hne];rfl,λ s q=>?_⟩
  obtain⟨t,ht,_⟩:=adY (T:=T) h1 q
  rw[hne] at ht;cases ht
 ·right
  obtain⟨v,ev,hv,hle⟩:=wY aaj hne
  obtain⟨s,q,rfl⟩:=ahG h1 hv
  refine⟨s,ev,q,λ s' q'=>?_⟩
  obtain⟨t,ht,hl⟩:=adY (T:=T) h1 q'
  exact VD (hle t ht) hl
end
section
variable {w h:Nat} {T:Nat->Nat->Nat->Int} {M:Nat->Nat->Int} {f:Nat->Nat->Int} {m:Str} {ρ:aq}
noncomputable def ajz:aq->So:=(bh (bL (aH (bw iR 3) (ao (bin (λ ρ=>ak ρ 0) (λ Z=> .ok (.int 0)) cI) (ao (λ ρ=>ak ρ 3) (ao (λ ρ=>ak ρ 3) (λ Z=> .ok []))))) (aK 5)) (JG 2 (bR 3 [5] (eF (λ ρ=>ak ρ 4)) (gQ (gR 3 (bO (aK 0) (bO (aK 1) (bO (aK 2) nilG))))) (λ Z=> .ok true) (gB (ao (λ ρ=>ak ρ 0) (ao (bin (λ ρ=>ak ρ 1) (λ ρ=>ak ρ 3) dH) (ao (λ ρ=>ak ρ 2) (λ Z=> .ok []))))))))
theorem ahH (h1:1<=h) {C:Nat->List Wy} {x:Nat} (hx:x < w) (hC:(C x).length<=1) {e1 e5:Option Ent} {acc:List D} (hl:acc.length<=1000):
  ajz [vA (tab w h T),e1,some (.lst acc),vA (.int (x:Int)),vA (cY (C x)),e5]= .nx [vA (tab w h T),e1,some (.lst (acc++((C x).map (iU (T 0 x 1))).map iY)),vA (.int (x:Int)),vA (cY (C x)),vA (.int (T 0 x 1))]:=by
 have e0:iR [.lst ((List.range w).map λ x=>eO (T 0 x)),.int (x:Int),.int (x:Int)]= .ok (.int (T 0 x 1)):=by
  have:=Ld (T:=T 0 x) (p:=λ x=>eO (T 0 x)) (a:=x) (b:=x) hx (by exact Nat.le_add_right _ _) (by exact Nat.le_add_right _ _) rfl
  rwa [show x+1 - x=1 by exact alq] at this
 refine aV (bB (bH (aF (au rfl rfl (qw (α:=D) (x:=0) h1)) (aF rfl (aB rfl))) e0) rfl) ?_
 refine (aae (ds:=acc) rfl (cj (c:=iY) (h:=λ t=>iY (iU (T 0 x 1) t)) (l:=C x) (gM rfl) (by exact T5 hC) λ t ht=>?_) (by simp;exact agv hl hC)).trans ?_
 ·exact cM rfl (fK (aF rfl (aF (x:= .int (t.2.1+T 0 x 1)) (au rfl rfl rfl) (aB rfl))))
 ·rw[List.map_map];rfl
theorem VF (h1:1<=h) {C:Nat->List Wy} (hC:∀p,(C p).length<=1) {e1:Option Ent}:∀{ps:List Nat} {acc:List D} {e3 e4 e5:Option Ent},(∀p∈ps,p < w)->acc.length+ps.length<=1000->
  ∃ z3 z4 z5,forL (gQ (gR 2 (bO (aK 3) (bO (aK 4) nilG)))) ajz (ps.map λ (p:Nat)=>D.tup [.int (p:Int),cY (C p)]) [vA (tab w h T),e1,some (.lst acc),e3,e4,e5] =
   .nx [vA (tab w h T),e1,some (.lst (acc++(ps.flatMap λ p=>(C p).map (iU (T 0 p 1))).map iY)),z3,z4,z5]
 |[],acc,e3,e4,e5,_,_=>⟨e3,e4,e5,by simp[Kw]⟩
 | p::ps,acc,e3,e4,e5,hp,hl=>by
  rw[List.length_cons] at hl
  have hpw:=hp p (by simp)
  have hc:=hC p
  obtain⟨z3,z4,z5,e⟩:=VF h1 hC (e1:=e1) (ps:=ps) (acc:=acc++((C p).map (iU (T 0 p 1))).map iY) (e3:=vA (.int (p:Int))) (e4:=vA (cY (C p))) (e5:=vA (.int (T 0 p 1))) (λ q hq=>hp q (by simp[hq])) (by simp;exact agw hl hc)
  refine⟨z3,z4,z5,jt rfl (ahH h1 hpw hc (by exact aaz hl)) (e.trans ?_)⟩
  rw[List.flatMap_cons,List.map_append,List.append_assoc]
theorem Yb (h1:1<=h) (hw:w<=20):nP [tab w h T,.lst ((List.range h).map λ y=>yZ w h T M (h - 1 - y))]= .ok (.lst ((topC w h T M).map iY)):=by
 obtain⟨z3,z4,z5,e⟩:=VF (T:=T) h1 (C:=qN w h T M (h - 1)) (λ p=>rF) (e1:=vA (.lst ((List.range h).map λ y=>yZ w h T M (h - 1 - y)))) (ps:=List.range w) (acc:=[]) (e3:=none) (e4:=none) (e5:=none) (λ p hp=>z2e hp) (by simp;exact agy hw)
 exact cL (aV (Av rfl) (aV (oG (Io (p:=λ p=>cY (qN w h T M (h - 1) p)) (aB (au rfl rfl (qw (α:=D) (x:=0) h1))) rfl) e) (bM rfl)))
theorem aa5 {cs:List Wy} (hl:cs.length < 64) (hn:(cs.map fl).Nodup) {u:aq->R D} {v:aq->R (Option Int)} (e:u ρ= .ok (.lst (cs.map iY))) (e0:v ρ= .ok (some 1)):mJ (aH wN (ao u (λ Z=> .ok []))) (λ Z=> .ok none) v ρ= .ok (.lst ((cu cs).map iY)):=by
 have e1:wN [.lst (cs.map iY)]= .ok (.lst ((mO (cs.map fl)).map kI)):=by
  rw[Vj,Ci]
  show (if _ then _ else _)=_
  rw[if_pos ⟨by simpa using hl,hn⟩]
 have e2:kJ ((mO (cs.map fl)).map kI) none (some 1)=(cu cs).map iY:=by
  have e3:∀{n d:Nat},HT.sIx n d (some 1)=min 1 n:=λ {n d}=>by
   show (if (1:Int) < 0 then ((1:Int)+(n:Int)).toNat else min (1:Int).toNat n)=min 1 n
   rw[if_neg (by decide)];rfl
  rw[kJ,e3,Fp,Nat.sub_zero,List.drop_zero,<-List.map_take]
  have e4:∀l:List (List Int),l.take (min 1 (l.map kI).length)=l.take 1:=λ l=>by cases l <;> simp
  rw[e4]
  unfold cu
  rw[List.map_map]
  refine List.map_congr_left λ l hl=>?_
  show kI l=iY (un l)
  rw[JN,Vy l (List.mem_of_mem_take hl)]
 unfold mJ
 rw[bC (aB e) e1,e0]
 show R.ok (D.lst (kJ _ none (some 1)))=_
 rw[e2]
theorem Ou (h1:1<=h) (hh:h<=20) (hw:w<=20):lZ [tab w h T,bN w h M,.int 1]= .ok (.lst ((cu (topC w h T M)).map iY)):=by
 have hl:=afM (w:=w) (h:=h) (T:=T) (M:=M)
 exact mj (bM (aa5 (by exact alr hl hw) aaj (bH (aF rfl (aB (bH (aF rfl (aF rfl (aB rfl))) ((ahE hh hw).trans (by rw[adT]))))) (Yb h1 hw)) rfl))
noncomputable def lwD:List Wy->D
 |[]=> .non
 |t::_=> .tup [.int t.2.1,.tup (t.2.2.map .int)]
noncomputable def Fv:List Wy->D
 |[]=> .non
 |t::_=> .tup (t.2.2.map .int)
theorem Fw (h1:1<=h) (hh:h<=20) (hw:w<=20):iz [tab w h T,bN w h M]= .ok (lwD (cu (topC w h T M))):=by
 have e:=Ou (T:=T) (M:=M) h1 hh hw
 have hl:=vM (cs:=topC w h T M)
 match cu (topC w h T M),e,hl with
 |[],e,_=>exact mj (aV (bB (bH (aF rfl (aF rfl (aB rfl))) e) rfl) (jB (fZ (dY (pP (ds:=[]) rfl)) (bM rfl))))
 |[t],e,_=>exact mj (aV (bB (bH (aF rfl (aF rfl (aB rfl))) e) rfl) (aV (dB (dY (pP (ds:=[iY t]) rfl)) rfl) (aV (bB (d:=iY t) (au (y:= .int 0) rfl rfl (wG (i:=0) rfl)) rfl) (bM (fK (aF rfl (aB rfl)))))))
 |_::_::_,_,hl=>simp at hl
theorem Du {d:D} (hm:m= "worth"\/m= "joins") (o:Ok w h f) (e:iT [d,bN w h f]= .ok (bN w h M)):kY [bN w h f,.str m,d]= .ok (Fv (cu (topC w h (tbl m w h f) M))):=by
 have e1:=Fw (T:=tbl m w h f) (M:=M) o.h1 o.h2 o.w2
 match cu (topC w h (tbl m w h f) M),e1 with
 |[],e1=>exact mj (aV (bB (bH (aF rfl (aF rfl (aB rfl))) (aah hm o e)) rfl) (aV (bB (bH (aF rfl (aB rfl)) e1) rfl) (jB (fZ (bf (b:=true) (au rfl rfl rfl)) (bM rfl)))))
 |t::r,e1=>exact mj (aV (bB (bH (aF rfl (aF rfl (aB rfl))) (aah hm o e)) rfl) (aV (bB (bH (aF rfl (aB rfl)) e1) rfl) (aV (dB (bf (b:=false) (au rfl rfl rfl)) rfl) (bM (d:=Fv (t::r)) (au (y:= .int 1) rfl rfl (o7 (i:=1) rfl))))))
theorem adZ {α:Type} {k:D->R (Option D)} {c:α->D} {o:α->Option D}:∀{l:List α},(∀a∈l,k (c a)= .ok (o a))->mL k (l.map c)= .ok (l.filterMap o)
 |[],_=>rfl
 | a::l,h=>by
  rw[z1h,ac2,h a (by simp),Ku,R.bF,adZ λ b hb=>h b (by simp[hb]),R.bF]
  cases e:o a with
  |none=>rw[List.filterMap_cons_none e];rfl
  |some d=>rw[List.filterMap_cons_some e];rfl
theorem ad0 {α:Type} {n:Nat} {caps:List Nat} {fi:aq->R (List D)} {gt:D->aq->R aq} {ft:aq->R Bool} {fe:aq->R D} {ρ:aq} {c:α->D} {o:α->Option D} {l:List α} (e1:fi ρ= .ok (l.map c)) (hl:l.length<=1000000)
  (e2:∀a∈l,pX gt ft fe (Br n caps ρ) (c a)= .ok (o a)):bR n caps fi gt ft fe ρ= .ok (.lst (l.filterMap o)):=by
 rw[bR,e1,R.bF,adZ e2,R.bF,cap,if_pos (z0b (List.length_filterMap_le _ _) hl)]
theorem Ov {ρ ρ1:aq} {gt:D->aq->R aq} {ft:aq->R Bool} {fe:aq->R D} {x d:D} {b:Bool} (e1:gt x ρ= .ok ρ1) (e2:ft ρ1= .ok b) (e3:fe ρ1= .ok d):pX gt ft fe ρ x= .ok (if b=true then some d else none):=by
 rw[pX,e1,R.bF,e2,R.bF]
 cases b with
 |true=>rw[if_pos rfl,if_pos rfl,e3];rfl
 |false=>rw[if_neg (by decide),if_neg (by decide)]
end
section
variable {ns:List Int} {w h:Nat} {f M:Nat->Nat->Int} {T:Nat->Nat->Nat->Int} {m:Str} {s:Nat->Nat} {ρ:aq}
noncomputable def tI (l:List Int):D:= .tup (l.map .int)
noncomputable def bQ (h:Nat) (s:Nat->Nat):List Int:=(List.range h).map λ y=>((s y:Nat):Int)
theorem agO:tI (bQ h s)=sm h s:=by unfold tI bQ;rw[List.map_map];rfl
noncomputable def ext (w:Nat) (l:List Int) (a:Int):List (List Int):=[a - 1,a,a+1].filterMap λ x=>if (decide (0<=x) && decide (x < (w:Int)))=true then some (l++[x]) else none
noncomputable def lst (l:List Int):Int:=l.getD (l.length - 1) 0
noncomputable def nA (w:Nat):Nat->List (List Int)
 |0=>(List.range w).map λ x=>[((x:Nat):Int)]
 |k+1=>(nA w k).flatMap λ l=>ext w l (lst l)
theorem Ow {k:Nat}:lst (bQ (k+1) s)=((s k:Nat):Int):=by simp[lst,bQ]
theorem VG {k:Nat}:bQ (k+1) s=bQ k s++[((s k:Nat):Int)]:=by unfold bQ;rw[List.range_succ,List.map_append];rfl
set_option tactic.hygienic true in
theorem aak {l r:List Int} {a:Int}:r∈ext w l a↔∃x,(x=a - 1\/x=a\/x=a+1)/\0<=x/\x < (w:Int)/\r=l++[x]:=by
 unfold ext
 rw[List.mem_filterMap]
 constructor
 ·rintro⟨x,hx,e⟩
  split at e
  ·rename_i hb
   cases e
   simp only[List.mem_cons,List.not_mem_nil,or_false] at hx
   simp only[Bool.and_eq_true,decide_eq_true_eq] at hb
   exact⟨x,hx,hb.1,hb.2,rfl⟩
  ·cases e
 ·rintro⟨x,hx,h0,h1,rfl⟩
  refine⟨x,by simpa using hx,?_⟩
  rw[if_pos (by simp[h0,h1])]
theorem Rq {s':Nat->Nat} {k:Nat} (e:∀y < k,s y=s' y):bQ k s=bQ k s':=by
 unfold bQ
 exact List.map_congr_left λ y hy=>by rw[e y (z2e hy)]
theorem aal {s':Nat->Nat} {k:Nat} (e:bQ k s=bQ k s'):∀y < k,s y=s' y:=λ y hy=>by
 have:=congrArg (λ l:List Int=>l[y]?) e
 simp only[bQ,z2b,List.getElem?_range hy,Option.map_some,Option.some.injEq] at this
 omega
theorem Ay:∀{k:Nat} {l:List Int},l∈nA w k↔∃s,Cg w (k+1) s/\l=bQ (k+1) s
 | 0,l=>by
  unfold nA
  rw[List.mem_map]
  constructor
  ·rintro⟨x,hx,rfl⟩
   exact⟨λ Z=>x,⟨λ Z Z=>z2e hx,λ y hy=>by omega⟩,rfl⟩
  ·rintro⟨s,q,rfl⟩
   exact⟨s 0,List.mem_range.mpr (q.lt 0 (by omega)),rfl⟩
 | k + 1,l=>by
  unfold nA
  rw[List.mem_flatMap]
  constructor
  ·rintro⟨l',h',hl⟩
   obtain⟨s,q,rfl⟩:=Ay.mp h'
   rw[Ow] at hl
   obtain⟨x,hx,h0,h1,rfl⟩:=aak.mp hl
   obtain⟨p,rfl⟩:=Int.eq_ofNat_of_zero_le h0
   have e1:∀y < k+1,(λ y=>if y=k+1 then p else s y) y=s y:=λ y hy=>if_neg (by omega)
   refine⟨λ y=>if y=k+1 then p else s y,⟨λ y hy=>?_,λ y hy=>?_⟩,?_⟩
   ·by_cases e:y=k+1
    ·simp only[e,if_true];omega
    ·simp only[e,if_false];exact q.lt y (by omega)
   ·by_cases e:y=k
    ·subst e
     simp only[if_true,show ¬y=y+1 by omega,if_false];omega
    ·simp only[show ¬y+1=k+1 by omega,show ¬y=k+1 by omega,if_false];exact q.st y (by omega)
   ·rw[VG (k:=k+1),Rq e1];simp
  ·rintro⟨s,q,rfl⟩
   refine⟨bQ (k+1) s,Ay.mpr ⟨s,⟨λ y hy=>q.lt y (by omega),λ y hy=>q.st y (by omega)⟩,rfl⟩,?_⟩
   rw[Ow,aak]
   have a:=q.st k (by omega)
   have b:=q.lt (k+1) (by omega)
   exact⟨((s (k+1):Nat):Int),by omega,by omega,by omega,VG⟩
theorem Ox {l:List Int} {a:Int}:(ext w l a).length<=3:=by unfold ext;exact List.length_filterMap_le _ _
theorem Rr {F:List Int->List (List Int)}:∀{l:List (List Int)},(∀a∈l,(F a).length<=3)->(l.flatMap F).length<=3*l.length
 |[],_=>by simp
 | a::l,h=>by
  rw[List.flatMap_cons,z1d,List.length_cons]
  have h1:=h a (by simp)
  have h2:=Rr (l:=l) λ b hb=>h b (by simp[hb])
  omega
theorem aam:∀{k:Nat},(nA w k).length<=w*3 ^ k
 |0=>by simp[nA]
 | k+1=>by
  unfold nA
  have:=Rr (F:=λ l=>ext w l (lst l)) (l:=nA w k) λ a Z=>Ox
  have h2:=aam (k:=k)
  rw[Nat.pow_succ]
  have:w*(3 ^ k*3)=3*(w*3 ^ k):=by rw[Nat.mul_comm (3 ^ k) 3,<-Nat.mul_assoc,Nat.mul_comm w 3,Nat.mul_assoc]
  omega
theorem afN {k:Nat} (hw:w<=4) (hk:k<=3):(nA w k).length<=108:=by
 have:=aam (w:=w) (k:=k)
 have h3:3 ^ k<=27:=by
  have:k=0\/k=1\/k=2\/k=3:=by omega
  rcases this with rfl |rfl |rfl |rfl <;> decide
 have:w*3 ^ k<=4*27:=Nat.mul_le_mul hw h3
 omega
theorem Oz {k:Nat}:cI (tI (bQ (k+1) s)) (.int (-1))= .ok (.int ((s k:Nat):Int)):=by
 have:atI ((bQ (k+1) s).map D.int) (-1)=some (.int ((s k:Nat):Int)):=by
  unfold atI ixN
  rw[if_neg (by omega),if_pos (by simp[bQ];omega)]
  show ((bQ (k+1) s).map D.int)[_]?=_
  have e:(-1+(((bQ (k+1) s).map D.int).length:Int)).toNat=k:=by simp[bQ];omega
  rw[e]
  simp[bQ]
 show cI (.tup ((bQ (k+1) s).map D.int)) (.int (-1))=_
 rw[cI,this]
theorem ahI {l:List Int} {a:Int}:(ext w l a).map tI=[a - 1,a,a+1].filterMap λ x=>if (decide (0<=x) && decide (x < (w:Int)))=true then some (tI (l++[x])) else none:=by
 unfold ext
 rw[List.map_filterMap]
 congr 1
 funext x
 split <;> rfl
theorem ajA {k:Nat} (hk:k < 20) (q:Cg w (k+1) s) {e1 e2 e3:Option Ent} {acc:List D} (hl:acc.length<=1000):
  wyI [vA (.int (w:Int)),e1,e2,e3,vA (.lst acc),vA (tI (bQ (k+1) s))]= .nx [vA (.int (w:Int)),e1,e2,e3,vA (.lst (acc++(ext w (bQ (k+1) s) (lst (bQ (k+1) s))).map tI)),vA (tI (bQ (k+1) s))]:=by
 have hlen:=Ox (w:=w) (l:=bQ (k+1) s) (a:=lst (bQ (k+1) s))
 have hwl:(bQ (k+1) s).length=k+1:=by simp[bQ]
 rw[Ow] at hlen |-
 refine bB (au rfl (y:= .lst ((ext w (bQ (k+1) s) ((s k:Nat):Int)).map tI)) ?_ (Il (by rw[z1g];omega))) rfl
 rw[ahI]
 refine ad0 (l:=[((s k:Nat):Int) - 1,((s k:Nat):Int),((s k:Nat):Int)+1]) (c:=D.int) (nO (fK (aF (au (au rfl rfl Oz) rfl rfl) (aF (au rfl rfl Oz) (aB (au (au rfl rfl Oz) rfl rfl)))))) (by simp) λ x hx=>?_
 refine Ov rfl ?_ (au rfl (fK (aB rfl)) ((Ar (by rw[z1g,hwl];simp;omega)).trans (by rw[tI,List.map_append];rfl)))
 by_cases h0:0<=x
 ·rw[decide_eq_true h0,Bool.true_and]
  exact pH (bf (au rfl rfl (La h0))) (bf (au rfl rfl rfl))
 ·rw[decide_eq_false h0,Bool.false_and]
  refine HS (bf (au rfl rfl ?_))
  show R.ok (D.bl (decide _))=_
  rw[decide_eq_false h0]
theorem VH {k:Nat} (hk:k < 20) {e1 e2 e3:Option Ent}:∀{ws:List (List Int)} {acc:List D} {e5:Option Ent},(∀l∈ws,∃s,Cg w (k+1) s/\l=bQ (k+1) s)->acc.length+3*ws.length<=1000->
  ∃z5,forL (aK 5) wyI (ws.map tI) [vA (.int (w:Int)),e1,e2,e3,vA (.lst acc),e5]= .nx [vA (.int (w:Int)),e1,e2,e3,vA (.lst (acc++(ws.flatMap λ l=>ext w l (lst l)).map tI)),z5]
 |[],acc,e5,_,_=>⟨e5,by simp[Kw]⟩
 | l::ws,acc,e5,hw,hl=>by
  rw[List.length_cons] at hl
  obtain⟨s,q,rfl⟩:=hw l (by simp)
  have hlen:=Ox (w:=w) (l:=bQ (k+1) s) (a:=lst (bQ (k+1) s))
  obtain⟨z5,e⟩:=VH hk (e1:=e1) (e2:=e2) (e3:=e3) (ws:=ws) (acc:=acc++(ext w (bQ (k+1) s) (lst (bQ (k+1) s))).map tI) (e5:=vA (tI (bQ (k+1) s))) (λ l hl=>hw l (by simp[hl])) (by rw[z1d,z1g];omega)
  refine⟨z5,jt rfl (ajA hk q (by omega)) (e.trans ?_)⟩
  rw[List.flatMap_cons,List.map_append,List.append_assoc]
theorem ajB {k:Nat} (hk:k < 3) (hw:w<=4) {e1 e3 e4 e5:Option Ent}:∃z4 z5,wyO [vA (.int (w:Int)),e1,vA (.lst ((nA w k).map tI)),e3,e4,e5]= .nx [vA (.int (w:Int)),e1,vA (.lst ((nA w (k+1)).map tI)),e3,z4,z5]:=by
 have hl:=afN (k:=k) hw (by omega)
 obtain⟨z5,e⟩:=VH (w:=w) (k:=k) (by omega) (e1:=e1) (e2:=vA (.lst ((nA w k).map tI))) (e3:=e3) (ws:=nA w k) (acc:=[]) (e5:=e5) (λ l hl=>Ay.mp hl) (by simp;omega)
 exact⟨_,z5,aV (bB (dR rfl) rfl) (aV (oG (gM rfl) e) (bB (d:= .lst ((nA w (k+1)).map tI)) rfl rfl))⟩
theorem VJ (hw:w<=4) {e1:Option Ent}:∀{r k:Nat} {ys:List Nat} {e3 e4 e5:Option Ent},ys.length=r->k+r<=3->∃z3 z4 z5,forL (aK 3) wyO (ys.map λ (y:Nat)=>D.int (y:Int)) [vA (.int (w:Int)),e1,vA (.lst ((nA w k).map tI)),e3,e4,e5]= .nx [vA (.int (w:Int)),e1,vA (.lst ((nA w (k+r)).map tI)),z3,z4,z5]
 |0,k,ys,e3,e4,e5,hl,_=>by cases List.length_eq_zero_iff.mp hl;exact⟨e3,e4,e5,rfl⟩
 | r +1,k,ys,e3,e4,e5,hl,hk=>by
  cases ys with
  |nil=>cases hl
  | cons y ys=>
   obtain⟨y4,y5,e⟩:=ajB (k:=k) (by omega) hw (e1:=e1) (e3:=vA (.int (y:Int))) (e4:=e4) (e5:=e5)
   obtain⟨z3,z4,z5,e'⟩:=VJ hw (e1:=e1) (r:=r) (k:=k+1) (ys:=ys) (e3:=vA (.int (y:Int))) (e4:=y4) (e5:=y5) (by simpa using hl) (by omega)
   rw[show k+1+r=k+(r+1) by omega] at e'
   exact⟨z3,z4,z5,jt rfl e e'⟩
theorem ahJ (hw:w<=4) (h1:1<=h) (hh:h<=4):mK [.int (w:Int),.int (h:Int)]= .ok (.lst ((nA w (h - 1)).map tI)):=by
 obtain⟨z3,z4,z5,e⟩:=VJ hw (e1:=vA (.int (h:Int))) (r:=h - 1) (k:=0) (ys:=List.range (h - 1)) (e3:=none) (e4:=none) (e5:=none) (by simp) (by omega)
 rw[Nat.zero_add] at e
 refine cL (aV (bB (d:= .lst ((nA w 0).map tI)) ?_ rfl) (aV (oG (m7 (m:=h - 1) (aB (au rfl rfl (Fq h1))) (by omega)) e) (bM rfl)))
 have:(nA w 0).map tI=(List.range w).map λ (x:Nat)=>D.tup [.int (x:Int)]:=by unfold nA;rw[List.map_map];rfl
 rw[this]
 exact cj (c:=λ (x:Nat)=>D.int (x:Int)) (h:=λ (x:Nat)=>D.tup [.int (x:Int)]) (l:=List.range w) (m7 (aB rfl) (by omega)) (by rw[z2d];omega) λ x hx=>cM rfl (fK (aB rfl))
theorem Lf {p q:aq->R Bool} (e1:p ρ= .ok true):Ea p q ρ= .ok true:=by rw[Ea,e1,R.bF,if_pos rfl]
theorem aa6 {s':Nat->Nat} (h1:1<=h) (e:∀y < h,s y=s' y):cost h T s=cost h T s':=by
 unfold cost
 rw[e 0 h1]
 congr 2
 refine List.map_congr_left λ y hy=>?_
 have hy:y+1 < h:=by have:=z2e hy;omega
 unfold fare
 rw[e (y+1) hy,e (y+1 - 1) (by omega)]
theorem VL {s':Nat->Nat} (h1:1<=h) (e:∀y < h,s y=s' y):wS T M h s=wS T M h s':=by
 unfold wS
 rw[aa6 h1 e,show gn M h s=gn M h s' by unfold gn;exact congrArg List.sum (List.map_congr_left λ y hy=>by rw[e y (z2e hy)])]
 exact congrArg (λ z=>(_,_,z)) (Rq e)
noncomputable def Lg (w h:Nat) (T:Nat->Nat->Nat->Int) (M:Nat->Nat->Int) (seen:List (List Int)):Option Wy->Prop
 |none=>∀s,bQ h s∈seen->¬Ft w h M s
 |some t=>(∃s,Ft w h M s/\t=wS T M h s)/\∀s,bQ h s∈seen->Ft w h M s->lt (wS T M h s) t=false
theorem VN {seen:List (List Int)} {b:Option Wy} (h1:1<=h) (hs:Ft w h M s) (q:Lg w h T M seen b) (hb:∀t,b=some t->lt (wS T M h s) t=true):Lg w h T M (seen++[bQ h s]) (some (wS T M h s)):=by
 refine⟨⟨s,hs,rfl⟩,λ s' h' q'=>?_⟩
 rcases List.mem_append.mp h' with z |z
 ·cases b with
  |none=>exact absurd q' (q s' z)
  | some t=>
   have a:=q.2 s' z q'
   cases e:lt (wS T M h s') (wS T M h s) with
   |false=>rfl
   | true=>
    have:=ni e (hb t rfl)
    exact this.symm.trans a
 ·rw[VL (T:=T) (M:=M) h1 (aal (List.mem_singleton.mp z))];exact pJ _
theorem ad1 {seen:List (List Int)} {t:Wy} (h1:1<=h) (q:Lg w h T M seen (some t)) (hb:lt (wS T M h s) t=false):Lg w h T M (seen++[bQ h s]) (some t):=by
 refine⟨q.1,λ s' h' q'=>?_⟩
 rcases List.mem_append.mp h' with z |z
 ·exact q.2 s' z q'
 ·rw[VL (T:=T) (M:=M) h1 (aal (List.mem_singleton.mp z))];exact hb
noncomputable def M0:Nat->Nat->Int:=λ Z Z=>0
theorem gn0:gn M0 h s=0:=by
 have:∀l:List Nat,(l.map λ Z=>(0:Int)).sum=0:=λ l=>by
  induction l with
  |nil=>rfl
  |cons a l ih=>rw[z1h,List.sum_cons,ih];rfl
 exact this _
theorem afO (q:Cg w h s):Ft w h M0 s:=⟨q,λ Z Z=>(by decide:(0:Int)≠1)⟩
noncomputable def pD (h:Nat) (T:Nat->Nat->Nat->Int):Option (Nat->Nat)->D
 |none=> .non
 |some s=> .tup [.int (cost h T s),tI (bQ h s)]
theorem VP {c:Int} {l:List Int}:pairOf (.tup [.int c,tI l])=some (c::l):=by
 show (intsOf (l.map .int)).map (λ ns=>c::ns)=_
 rw[K7];rfl
theorem ad2 {s':Nat->Nat}:Vq (.tup [.int (cost h T s),tI (bQ h s)]) (.tup [.int (cost h T s'),tI (bQ h s')])= .ok (.bl (lt (wS T M0 h s) (wS T M0 h s'))):=by
 rw[Vq,VP,VP]
 show R.ok (D.bl (fG (cost h T s::bQ h s) (cost h T s'::bQ h s')))=R.ok (D.bl (fG (-gn M0 h s::cost h T s::bQ h s) (-gn M0 h s'::cost h T s'::bQ h s')))
 rw[gn0,gn0];rfl
theorem sum_add {l:List Nat} {a b:Nat->Int}:(l.map λ y=>a y+b y).sum=(l.map a).sum+(l.map b).sum:=by
 induction l with
 |nil=>rfl
 |cons y l ih=>rw[z1h,z1h,z1h,List.sum_cons,List.sum_cons,List.sum_cons,ih];omega
theorem afP {U:Nat->Nat->Nat->Int}:cost h (λ y x k=>T y x k+U y x k) s=cost h T s+cost h U s:=by
 unfold cost
 have e:(λ y=>fare (λ y x k=>T y x k+U y x k) s (y+1))=λ y=>fare T s (y+1)+fare U s (y+1):=rfl
 rw[e,sum_add]
 show T 0 (s 0) 1+U 0 (s 0) 1+_=_
 omega
noncomputable def Ts (m:Str) (w h:Nat):List (Nat->Nat->Int)->Nat->Nat->Nat->Int
 |[]=>λ Z Z Z=>0
 |f::fs=>λ y x k=>tbl m w h f y x k+Ts m w h fs y x k
theorem aan {fs:List (Nat->Nat->Int)}:cost h (Ts m w h fs) s=(fs.map λ f=>cost h (tbl m w h f) s).sum:=by
 induction fs with
 | nil=>
  have:∀l:List Nat,(l.map λ y=>fare (λ Z Z Z=>0) s (y+1)).sum=0:=λ l=>by
   induction l with
   |nil=>rfl
   |cons a l ih=>rw[z1h,List.sum_cons,ih];rfl
  exact (congrArg (λ z=>(0:Int)+z) (this _)).trans rfl
 |cons f fs ih=>rw[z1h,List.sum_cons,<-ih];exact afP
theorem ajC {fs:List (Nat->Nat->Int)} (hm:m= "worth"\/m= "joins") (h1:1<=h) (of:∀f∈fs,Ok w h f) (hl:fs.length<=1000) (q:Cg w h s) {seen:List (List Int)} {b:Option (Nat->Nat)} (hb:Lg w h (Ts m w h fs) M0 seen (b.map (wS (Ts m w h fs) M0 h))) {e0 e1 e2 e5 e8 e9 e10 VR:Option Ent}:
  ∃b' z8,foB [e0,e1,e2,vA (.str m),vA (.lst (fs.map (bN w h))),e5,vA (pD h (Ts m w h fs) b),vA (tI (bQ h s)),e8,e9,e10,VR]= .nx [e0,e1,e2,vA (.str m),vA (.lst (fs.map (bN w h))),e5,vA (pD h (Ts m w h fs) b'),vA (tI (bQ h s)),z8,e9,e10,VR]/\Lg w h (Ts m w h fs) M0 (seen++[bQ h s]) (b'.map (wS (Ts m w h fs) M0 h)):=by
 have eh:gB (ao (aH Js (ao (bR 1 [3,7] (eF (λ ρ=>ak ρ 4)) (aK 0) (λ Z=> .ok true) (aH (bw kh 3) (ao (λ ρ=>ak ρ 0) (ao (λ ρ=>ak ρ 1) (ao (λ ρ=>ak ρ 2) (λ Z=> .ok [])))))) (λ Z=> .ok []))) (ao (λ ρ=>ak ρ 7) (λ Z=> .ok []))) [e0,e1,e2,vA (.str m),vA (.lst (fs.map (bN w h))),e5,vA (pD h (Ts m w h fs) b),vA (tI (bQ h s)),e8,e9,e10,VR]= .ok (.tup [.int (cost h (Ts m w h fs) s),tI (bQ h s)]):=by
  rw[aan]
  refine fK (aF (bC (aB (cj (c:=bN w h) (h:=λ f=> .int (cost h (tbl m w h f) s)) (l:=fs) (gM rfl) (by omega) λ f hf=>?_)) ZK) (aB rfl))
  refine cM rfl (bH (aF rfl (aF rfl (aB rfl))) ?_)
  rw[agO];exact X8 hm (of f hf) q
 cases b with
 |none=>exact⟨some s,_,aV (bB eh rfl) (bB (Iu (Lf (bf (au rfl rfl rfl))) rfl) rfl),VN h1 (afO q) hb λ t e=>nomatch e⟩
 | some s'=>
  cases hlt:lt (wS (Ts m w h fs) M0 h s) (wS (Ts m w h fs) M0 h s') with
  |true=>exact⟨some s,_,aV (bB eh rfl) (bB (Iu (m8 (bf (au rfl rfl rfl)) (bf (au rfl rfl (ad2.trans (by rw[hlt]))))) rfl) rfl),VN h1 (afO q) hb λ t' e=>by cases e;exact hlt⟩
  |false=>exact⟨some s',_,aV (bB eh rfl) (bB (Ot (m8 (bf (au rfl rfl rfl)) (bf (au rfl rfl (ad2.trans (by rw[hlt]))))) rfl) rfl),ad1 h1 hb hlt⟩
theorem aao {fs:List (Nat->Nat->Int)} (hm:m= "worth"\/m= "joins") (h1:1<=h) (of:∀f∈fs,Ok w h f) (hl:fs.length<=1000) {e0 e1 e2 e5 e9 e10 VR:Option Ent}:∀{ws seen:List (List Int)} {b:Option (Nat->Nat)} {e7 e8:Option Ent},(∀l∈ws,∃s,Cg w h s/\l=bQ h s)->Lg w h (Ts m w h fs) M0 seen (b.map (wS (Ts m w h fs) M0 h))->
  ∃b' z7 z8,forL (aK 7) foB (ws.map tI) [e0,e1,e2,vA (.str m),vA (.lst (fs.map (bN w h))),e5,vA (pD h (Ts m w h fs) b),e7,e8,e9,e10,VR]= .nx [e0,e1,e2,vA (.str m),vA (.lst (fs.map (bN w h))),e5,vA (pD h (Ts m w h fs) b'),z7,z8,e9,e10,VR]/\Lg w h (Ts m w h fs) M0 (seen++ws) (b'.map (wS (Ts m w h fs) M0 h))
 |[],seen,b,e7,e8,_,hb=>⟨b,e7,e8,rfl,by rw[List.append_nil];exact hb⟩
 | l::ws,seen,b,e7,e8,hw,hb=>by
  obtain⟨s,q,rfl⟩:=hw l (by simp)
  obtain⟨b1,y8,e1,h2⟩:=ajC hm h1 of hl q hb
  obtain⟨b',z7,z8,e2,h3⟩:=aao hm h1 of hl (ws:=ws) (seen:=seen++[bQ h s]) (b:=b1) (λ l hl=>hw l (by simp[hl])) h2
  exact⟨b',z7,z8,jt rfl e1 e2,by rw[List.append_assoc] at h3;exact h3⟩
end
section
variable {ns:List Int} {w h:Nat} {f M:Nat->Nat->Int} {T U:Nat->Nat->Nat->Int} {m:Str} {s:Nat->Nat} {ρ:aq}
theorem ahK (hh:h<=20) (hw:w<=20):pO [tab w h T,tab w h U]= .ok (tab w h λ y x k=>T y x k+U y x k):=by
 refine cL (bM (cj (c:=λ y=> .tup [.lst ((List.range w).map λ x=>eO (T y x)),.lst ((List.range w).map λ x=>eO (U y x))]) (h:=λ y=> .lst ((List.range w).map λ x=>eO λ k=>T y x k+U y x k)) (l:=List.range h) (Om (aF rfl (aB rfl)) rfl rfl) (by rw[z2d];omega) λ y Z=>?_))
 refine cM rfl (cj (c:=λ x=> .tup [eO (T y x),eO (U y x)]) (h:=λ x=>eO λ k=>T y x k+U y x k) (l:=List.range w) (Om (aF rfl (aB rfl)) rfl rfl) (by rw[z2d];omega) λ x Z=>?_)
 exact cM rfl (bC (aB (cj (c:=λ k=> .tup [.int (T y x k),.int (U y x k)]) (h:=λ k=> .int (T y x k+U y x k)) (l:=[0,1,2]) (Om (l:=[0,1,2]) (p:=λ k=> .int (T y x k)) (q:=λ k=> .int (U y x k)) (aF rfl (aB rfl)) rfl rfl) (by decide) λ k Z=>cM rfl (au rfl rfl rfl))) rfl)
theorem aap (hm:m= "worth"\/m= "joins") (hh:h<=20) (hw:w<=20) {e0:Option Ent}:∀{gs:List (Nat->Nat->Int)} {A:Nat->Nat->Nat->Int} {e3:Option Ent},(∀f∈gs,Ok w h f)->
  ∃z3,forL (aK 3) smB (gs.map (bN w h)) [e0,vA (.str m),vA (tab w h A),e3]= .nx [e0,vA (.str m),vA (tab w h λ y x k=>A y x k+Ts m w h gs y x k),z3]
 | [], A,e3,_=>⟨e3,by
   have:(λ y x k=>A y x k+Ts m w h [] y x k)=A:=by
    funext y x k
    exact Int.add_zero _
   rw[this];rfl⟩
 | f ::gs,A,e3,of=>by
  obtain⟨z3,e⟩:=aap hm hh hw (e0:=e0) (gs:=gs) (A:=λ y x k=>A y x k+tbl m w h f y x k) (e3:=vA (bN w h f)) λ g hg=>of g (by simp[hg])
  refine⟨z3,jt rfl (bB (bH (aF rfl (aB (bH (aF rfl (aB rfl)) (JR hm (of f (by simp)))))) (ahK hh hw)) rfl) (e.trans ?_)⟩
  have:(λ y x k=>A y x k+tbl m w h f y x k+Ts m w h gs y x k)=λ y x k=>A y x k+Ts m w h (f::gs) y x k:=by
   funext y x k
   exact Int.add_assoc _ _ _
  rw[this]
theorem aaq {fs:List (Nat->Nat->Int)} {f0:Nat->Nat->Int} (of:∀f∈f0::fs,Ok w h f) (hl:fs.length<=100):cW [.lst ((f0::fs).map (bN w h))]= .ok (.bl true):=by
 have e1:aH p8 (ao (bR 1 [] (eF (λ ρ=>ak ρ 0)) (aK 0) (λ Z=> .ok true) (aH (bw dD 1) (ao (λ ρ=>ak ρ 0) (λ Z=> .ok [])))) (λ Z=> .ok [])) (dU [vA (.lst ((f0::fs).map (bN w h)))])= .ok (.bl true):=
  bC (aB (cj (c:=bN w h) (h:=λ Z=> .bl true) (l:=f0::fs) (gM rfl) (by simp;omega) λ f hf=>cM rfl (bH (aB rfl) (o8 (of f hf))))) vW
 refine cL (aV (dB (m8 (dY (b:=true) (bf rfl)) (m8 ((dY (pP (ds:=(f0::fs).map (bN w h)) rfl)).trans rfl) (dY (b:=true) (bf e1)))) rfl) (bM (bC (aB (cj (c:=bN w h) (h:=λ Z=> .bl true) (l:=f0::fs) (gM rfl) (by simp;omega) λ f hf=>?_)) vW)))
 exact cM rfl (au (bH (aB rfl) (size_eq (of f hf))) (bH (aB (au rfl rfl (wG (i:=0) rfl))) (size_eq (of f0 (by simp)))) (Uy rfl (by simp[dep,deps])))
end
section
variable {ns:List Int} {w h:Nat} {f M:Nat->Nat->Int} {T U:Nat->Nat->Nat->Int} {m:Str} {s:Nat->Nat} {ρ:aq}
theorem aa7 {f:aq->R D} {fl:aq->R (Option Int)} {ds:List D} {n:Nat} (e1:f ρ= .ok (.lst ds)) (e2:fl ρ= .ok (some (n:Int))) (h:n<=ds.length):mJ f fl (λ Z=> .ok none) ρ= .ok (.lst (ds.drop n)):=by
 rw[mJ,e1,R.bF,e2,R.bF,R.bF]
 show R.ok (D.lst (kJ ds (some (n:Int)) none))=_
 rw[adM h]
theorem ajD:lwD [wS T M h s]= .tup [.int (cost h T s),sm h s]:=by
 show D.tup [.int (cost h T s),.tup (((List.range h).map λ y=>((s y:Nat):Int)).map .int)]=_
 rw[List.map_map];rfl
theorem Lh:Fv [wS T M h s]=sm h s:=by
 show D.tup (((List.range h).map λ y=>((s y:Nat):Int)).map .int)=_
 rw[List.map_map];rfl
theorem Iv (o:Ok w h f):∃s,cu (topC w h T M0)=[wS T M0 h s]/\Bst w h T M0 s:=by
 rcases least (w:=w) (h:=h) (T:=T) (M:=M0) o.h1 with⟨_,no⟩ |z
 ·exact absurd (afO (s:=λ Z=>0) ⟨λ Z Z=>o.w1,λ Z Z=>⟨Nat.zero_le _,Nat.zero_le _⟩⟩) (no _)
 ·exact z
theorem Fx {gs:List (Nat->Nat->Int)} {f0:Nat->Nat->Int} (hm:m= "worth"\/m= "joins") (of:∀f∈f0::gs,Ok w h f) (hl:gs.length<=100):cA [.lst ((f0::gs).map (bN w h)),.str m]= .ok (Fv (cu (topC w h (Ts m w h (f0::gs)) M0))):=by
 have o:=of f0 (by simp)
 obtain⟨s,en,_⟩:=Iv (T:=Ts m w h (f0::gs)) o
 rw[en,Lh]
 obtain⟨z3,el⟩:=aap hm o.h2 o.w2 (gs:=gs) (A:=tbl m w h f0) (e3:=none) (e0:=vA (.lst ((f0::gs).map (bN w h)))) λ g hg=>of g (by simp[hg])
 have lw:iz [tab w h (Ts m w h (f0::gs)),bN w h M0]= .ok (.tup [.int (cost h (Ts m w h (f0::gs)) s),sm h s]):=(Fw o.h1 o.h2 o.w2).trans (by rw[en,ajD])
 refine cL (aV (dB (dY (bf (bH (aB rfl) (aaq of hl)))) rfl) (aV (HW (lK (aB rfl) rfl (Aw hm))) (aV (bB (bH (aF (au rfl rfl (wG (i:=0) rfl)) (aB rfl)) (JR hm o)) rfl) (aV (oG (xs:=gs.map (bN w h)) (gM (aa7 (n:=1) (ds:=(f0::gs).map (bN w h)) rfl rfl (by simp))) el) ?_))))
 exact bM (au (bH (aF rfl (aB (bH (aB (au rfl rfl (wG (i:=0) rfl))) (Jb o)))) lw) rfl (o7 (i:=1) rfl))
end
section
variable {ns:List Int} {w h:Nat} {f M:Nat->Nat->Int} {T U:Nat->Nat->Nat->Int} {m:Str} {s:Nat->Nat} {ρ:aq}
theorem ad3 {b:Option (Nat->Nat)} (o:Ok w h f) (hb:Lg w h T M0 (nA w (h - 1)) (b.map (wS T M0 h))) (en:cu (topC w h T M0)=[wS T M0 h s]) (hs:Bst w h T M0 s):∃s',b=some s'/\Fv (cu (topC w h T M0))=tI (bQ h s'):=by
 have h1:=o.h1
 have hk:h - 1+1=h:=by omega
 have al:bQ h s∈nA w (h - 1):=Ay.mpr ⟨s,by rw[hk];exact⟨hs.1.sm,rfl⟩⟩
 cases b with
 |none=>exact absurd hs.1 (hb s al)
 | some t=>
  refine⟨t,rfl,?_⟩
  obtain⟨⟨s',q',e⟩,hle⟩:=hb
  have e:wS T M0 h t=wS T M0 h s':=e
  have e1:=hs.2 s' q'
  have e2:=hle s al hs.1
  rw[<-e] at e1
  have e3:wS T M0 h s=wS T M0 h t:=adV e2 e1
  rw[en,e3,Lh,agO]
theorem agP:cost h (Ts m w h [f,f,f]) s=3*cost h (tbl m w h f) s:=by
 rw[aan]
 show cost h (tbl m w h f) s+(cost h (tbl m w h f) s+(cost h (tbl m w h f) s+0))=_
 omega
theorem afQ {s':Nat->Nat}:lt (wS (Ts m w h [f,f,f]) M0 h s) (wS (Ts m w h [f,f,f]) M0 h s')=lt (wS (tbl m w h f) M0 h s) (wS (tbl m w h f) M0 h s'):=by
 show fG (-gn M0 h s::cost h (Ts m w h [f,f,f]) s::bQ h s) (-gn M0 h s'::cost h (Ts m w h [f,f,f]) s'::bQ h s')=fG (-gn M0 h s::cost h (tbl m w h f) s::bQ h s) (-gn M0 h s'::cost h (tbl m w h f) s'::bQ h s')
 rw[gn0,gn0,agP,agP]
 show fG (3*cost h (tbl m w h f) s::bQ h s) (3*cost h (tbl m w h f) s'::bQ h s')=fG (cost h (tbl m w h f) s::bQ h s) (cost h (tbl m w h f) s'::bQ h s')
 rw[fG,fG]
 by_cases z:cost h (tbl m w h f) s=cost h (tbl m w h f) s'
 ·rw[if_pos z,if_pos (by rw[z])]
 ·rw[if_neg z,if_neg (by omega)]
  exact decide_eq_decide.mpr ⟨λ q=>by omega,λ q=>by omega⟩
theorem afR (o:Ok w h f):Fv (cu (topC w h (Ts m w h [f,f,f]) M0))=Fv (cu (topC w h (tbl m w h f) M0)):=by
 obtain⟨s,en,hs⟩:=Iv (T:=Ts m w h [f,f,f]) o
 obtain⟨s',en',hs'⟩:=Iv (T:=tbl m w h f) o
 have e1:=hs.2 s' hs'.1
 rw[afQ] at e1
 have e:wS (tbl m w h f) M0 h s'=wS (tbl m w h f) M0 h s:=adV e1 (hs'.2 s hs.1)
 rw[en,en',e,Lh,Lh]
theorem ajE:Ts m w h [f]=tbl m w h f:=by
 funext y x k
 exact Int.add_zero _
theorem ahL {d md:D} (e:cA [d,md]= .err "NoPictures"):lJ [d,md]= .ok (.lst [.bl true,.bl false]):=
 have hk:j9 "NoPictures" "NoPictures" =true:=by decide
 mj (jB (adw (c:= "NoPictures") (N7 (lK (aB rfl) (aB rfl) e)) (by decide) (bM (dR (aF (BL rfl hk) (aB (BL rfl hk)))))))
theorem ajF {d md:D} (e:cA [d,md]= .err "NoManner"):lJ [d,md]= .ok (.lst [.bl false,.bl true]):=
 have hk:j9 "NoManner" "NoManner" =true:=by decide
 mj (jB (adw (c:= "NoManner") (N7 (lK (aB rfl) (aB rfl) e)) (by decide) (bM (dR (aF (BL rfl hk) (aB (BL rfl hk)))))))
theorem aa8 {d md:D} (e:cW [d]= .ok (.bl false)):cA [d,md]= .err "NoPictures" :=
 U7 (adv (fZ (dY (b:=false) (bf (bH (aB rfl) e))) rfl))
theorem aa9 {d md:D} (e:cW [d]= .ok (.bl true)) (e2:dI [md]= .err "NoManner"):cA [d,md]= .err "NoManner" :=
 U7 (aV (dB (dY (b:=true) (bf (bH (aB rfl) e))) rfl) (adv (N7 (lK (aB rfl) rfl e2))))
theorem ahM {md:D} (e:BW md (.tup [.str "worth",.str "joins"])= .ok (.bl true)):dI [md]= .err "NoManner" :=
 U7 (fZ (bf (au rfl rfl e)) rfl)
theorem ahN:∀md∈[D.str "plain",.non,.int 0,.tup [.str "worth"],.str ""],dI [md]= .err "NoManner" :=λ md hmd=>by
 simp only[List.mem_cons,List.not_mem_nil,or_false] at hmd
 rcases hmd with rfl |rfl |rfl |rfl |rfl <;> exact ahM (by first |(simp[BW,fB,dep];done) |(simp[BW,fB,dep];decide))
end
section
variable {ns:List Int} {w h:Nat} {f M:Nat->Nat->Int} {T U:Nat->Nat->Nat->Int} {m:Str} {s:Nat->Nat} {ρ:aq}
theorem afS:cW [.non]= .ok (.bl false):=cL (jB (fZ (Lf (dY (b:=false) (bf rfl))) (bM rfl)))
theorem V0 {ds:List D}:cW [.tup ds]= .ok (.bl false):=cL (jB (fZ (Lf (dY (b:=false) (bf rfl))) (bM rfl)))
theorem afT:cW [.lst []]= .ok (.bl false):=cL (jB (fZ (m8 (dY (b:=true) (bf rfl)) (Lf ((dY (pP (ds:=[]) rfl)).trans rfl))) (bM rfl)))
theorem aar {α:Type} {c:α->Bool}:∀{l:List α},boolsOf (l.map λ a=>D.bl (c a))=some (l.map c)
 |[]=>rfl
 | a::l=>by
  show (boolsOf (l.map λ a=>D.bl (c a))).map (c a:: ·)=_
  rw[aar];rfl
theorem agQ {α:Type} {c:α->Bool} {l:List α}:p8 [.lst (l.map λ a=>D.bl (c a))]= .ok (.bl (l.all c)):=by
 show (match boolsOf (l.map λ a=>D.bl (c a)) with |some bs=>R.ok (D.bl (bs.all id)) |none=> .bad)=_
 rw[aar]
 show R.ok (D.bl ((l.map c).all id))=_
 rw[List.all_map];rfl
noncomputable abbrev P3:=Nat×Nat×(Nat->Nat->Int)
noncomputable def p3 (t:P3):D:=bN t.1 t.2.1 t.2.2
theorem alS {a b c d:Nat}:qb (.tup [.int (a:Int),.int (b:Int)]) (.tup [.int (c:Int),.int (d:Int)])= .ok (.bl (decide (a=c) && decide (b=d))):=by
 rw[qb,if_pos (by simp[dep,deps])]
 show R.ok (D.bl ((((a:Int) ==(c:Int)) && (((b:Int) ==(d:Int)) && true))))=_
 rw[Bool.and_true]
 congr 3
 ·exact decide_eq_decide.mpr ⟨λ q=>by omega,λ q=>by omega⟩
 ·exact decide_eq_decide.mpr ⟨λ q=>by omega,λ q=>by omega⟩
theorem V1 {t0:P3} {ts:List P3} (o:∀t∈t0::ts,Ok t.1 t.2.1 t.2.2) (hl:ts.length<=100):cW [.lst ((t0::ts).map p3)]= .ok (.bl ((t0::ts).all λ t=>decide (t.1=t0.1) && decide (t.2.1=t0.2.1))):=by
 have e1:aH p8 (ao (bR 1 [] (eF (λ ρ=>ak ρ 0)) (aK 0) (λ Z=> .ok true) (aH (bw dD 1) (ao (λ ρ=>ak ρ 0) (λ Z=> .ok [])))) (λ Z=> .ok [])) (dU [vA (.lst ((t0::ts).map p3))])= .ok (.bl true):=
  bC (aB (cj (c:=p3) (h:=λ Z=> .bl true) (l:=t0::ts) (gM rfl) (by simp;omega) λ t ht=>cM rfl (bH (aB rfl) (o8 (o t ht))))) vW
 refine cL (aV (dB (m8 (dY (b:=true) (bf rfl)) (m8 ((dY (pP (ds:=(t0::ts).map p3) rfl)).trans rfl) (dY (b:=true) (bf e1)))) rfl) (bM (bC (aB (cj (c:=p3) (h:=λ t=> .bl (decide (t.1=t0.1) && decide (t.2.1=t0.2.1))) (l:=t0::ts) (gM rfl) (by simp;omega) λ t ht=>?_)) agQ)))
 exact cM rfl (au (bH (aB rfl) (size_eq (o t ht))) (bH (aB (au rfl rfl (wG (i:=0) rfl))) (size_eq (o t0 (by simp)))) alS)
theorem ahO:dD [.non]= .ok (.bl false):=by rfl
theorem ad4 {t0:P3} {ts:List P3} (o:∀t∈t0::ts,Ok t.1 t.2.1 t.2.2) (hl:ts.length<=100):cW [.lst ((t0::ts).map p3++[.non])]= .ok (.bl false):=by
 have el:(t0::ts).map p3++[.non]=((t0::ts).map some++[none]).map (λ t:Option P3=>match t with |some t=>p3 t |none=> .non):=by
  rw[List.map_append,List.map_map];rfl
 have e1:aH p8 (ao (bR 1 [] (eF (λ ρ=>ak ρ 0)) (aK 0) (λ Z=> .ok true) (aH (bw dD 1) (ao (λ ρ=>ak ρ 0) (λ Z=> .ok [])))) (λ Z=> .ok [])) (dU [vA (.lst ((t0::ts).map p3++[.non]))])= .ok (.bl false):=by
  rw[el]
  refine (bC (aB (cj (c:=λ t:Option P3=>match t with |some t=>p3 t |none=> .non) (h:=λ t=> .bl t.isSome) (l:=(t0::ts).map some++[none]) (gM rfl) (by simp;omega) λ t ht=>?_)) agQ).trans ?_
  ·cases t with
   |none=>exact cM rfl (bH (aB rfl) ahO)
   | some t=>
    have ht:t∈t0::ts:=by simpa using ht
    exact cM rfl (bH (aB rfl) (o8 (o t ht)))
  ·rw[List.all_append]
   show R.ok (D.bl (_ && false))=_
   rw[Bool.and_false]
 exact cL (jB (fZ (m8 (dY (b:=true) (bf rfl)) (m8 ((dY (pP (ds:=(t0::ts).map p3++[.non]) rfl)).trans rfl) (dY (b:=false) (bf e1)))) (bM rfl)))
end
section
variable {ns:List Int} {w h:Nat} {f M:Nat->Nat->Int} {T U:Nat->Nat->Nat->Int} {m:Str} {s:Nat->Nat} {ρ:aq}
theorem afU {g:Nat->Int}:dep (row w g)<=1:=by
 unfold row
 first |rw [jF] |rw [jG]
 have:=vV (c:=λ x=>D.int (g x)) (n:=0) (l:=List.range w) λ x Z=>by simp[jF,jG,vI,vJ,vK,vL]
 exact Nat.succ_le_succ this
theorem afV:dep (bN w h f)<=2:=by
 unfold bN
 first |rw [jF] |rw [jG]
 have:=vV (c:=λ y=>row w (f y)) (n:=1) (l:=List.range h) λ y Z=>afU
 exact Nat.succ_le_succ this
theorem afW {fs:List (Nat->Nat->Int)}:dep (.lst (fs.map (bN w h)))<=40:=by
 first |rw [jF] |rw [jG]
 have:=vV (c:=bN w h) (n:=2) (l:=fs) λ f Z=>afV
 omega
theorem V2 {l:List Wy}:dep (Fv l)<=40:=by
 cases l with
 |nil=>simp[Fv,jF,jG,vI,vJ,vK,vL]
 | cons t r=>
  show dep (D.tup (t.2.2.map .int))<=40
  first |rw [jF] |rw [jG]
  have:=vV (c:=D.int) (n:=0) (l:=t.2.2) λ x Z=>by simp[jF,jG,vI,vJ,vK,vL]
  omega
theorem ahP (hm:m= "worth"\/m= "joins") (o:Ok w h f):cA [.lst [bN w h f],.str m]= .ok (Fv (cu (topC w h (tbl m w h f) M0))):=by
 have:=Fx (gs:=[]) (f0:=f) (w:=w) (h:=h) hm (λ g hg=>by rw[List.mem_singleton.mp hg];exact o) (by simp)
 rw[ajE] at this
 exact this
theorem ahQ (o:Ok w h f):cA [.lst [bN w h f,bN w h f,bN w h f],.str "worth"]= .ok (Fv (cu (topC w h (tbl "worth" w h f) M0))):=by
 have:=Fx (m:= "worth") (gs:=[f,f]) (f0:=f) (w:=w) (h:=h) (.inl rfl) (λ g hg=>by simp at hg;rw[hg];exact o) (by simp)
 rw[afR o] at this
 exact this
noncomputable def sW (h:Nat) (f:Nat->Nat->Int):Nat->Nat->Int:=λ y=>if y < h then f y else f 0
noncomputable def Ck (w:Nat) (f:Nat->Nat->Int):Nat->Nat->Int:=λ y x=>if x < w then f y x else 0
theorem ahR (h1:1<=h):D.tup (((List.range h).map λ y=>row w (f y))++((List.range h).map λ y=>row w (f y)).take 1)=bN w (h+1) (sW h f):=by
 unfold bN
 rw[List.range_succ,List.map_append]
 congr 2
 ·refine List.map_congr_left λ y hy=>?_
  unfold sW
  rw[if_pos (z2e hy)]
 ·obtain⟨k,rfl⟩:∃k,h=k+1:=⟨h - 1,by omega⟩
  rw[List.range_succ_eq_map]
  show [row w (f 0)]=[row w (sW (k+1) f (k+1))]
  unfold sW
  rw[if_neg (Nat.lt_irrefl _)]
set_option tactic.hygienic true in
theorem Ok.ana (o:Ok w h f) (hh:h<=4):Ok w (h+1) (sW h f):=by
 have h1:=o.h1
 refine⟨o.w1,o.w2,by omega,by omega,λ y hy x hx=>?_⟩
 unfold sW
 split
 ·rename_i z;exact o.c y z x hx
 ·exact o.c 0 h1 x hx
set_option tactic.hygienic true in
theorem Ok.wide (o:Ok w h f) (hw:w<=4):Ok (w+1) h (Ck w f):=by
 have h1:=o.h1
 refine⟨by omega,by omega,o.h1,o.h2,λ y hy x hx=>?_⟩
 unfold Ck
 split
 ·rename_i z;exact o.c y hy x z
 ·exact⟨by decide,by decide⟩
theorem afX {g:Nat->Int}:D.tup (((List.range w).map λ x=>D.int (g x))++[.int 0])=row (w+1) (λ x=>if x < w then g x else 0):=by
 unfold row
 rw[List.range_succ,List.map_append]
 congr 2
 ·refine List.map_congr_left λ x hx=>?_
  show D.int (g x)=D.int (if x < w then g x else 0)
  rw[if_pos (z2e hx)]
 ·show [D.int 0]=[D.int (if w < w then g w else 0)]
  rw[if_neg (Nat.lt_irrefl _)]
theorem aas {l:List D} {ft:aq->R Bool} {fi:aq->R (List D)} {caps:List Nat} {σ:aq} (e1:fi σ= .ok l) (hl:l.length<=1000000) (e2:∀d∈l,pX (aK 0) ft (λ ρ=>ak ρ 0) (Br 1 caps σ) d= .ok none):bR 1 caps fi (aK 0) ft (λ ρ=>ak ρ 0) σ= .ok (.lst []):=by
 refine (ad0 (c:=λ d:D=>d) (o:=λ Z=>none) (l:=l) (e1.trans (by rw[List.map_id'])) hl e2).trans ?_
 congr 2
 exact List.filterMap_eq_nil_iff.mpr λ Z Z=>rfl
theorem ahS {f0:Nat->Nat->Int} {gs:List (Nat->Nat->Int)} (hw:w<=4) (hh:h<=4) (of:∀f∈f0::gs,Ok w h f) (hl:gs.length<=2) {md:D}:∀d∈[D.non,.lst [],.tup ((f0::gs).map (bN w h)),.lst ((f0::gs).map (bN w h)++[.non]),.lst ((f0::gs).map (bN w h)++[bN w (h+1) (sW h f0)])]++[.lst [bN w h f0,bN (w+1) h (Ck w f0)],bN w h f0],lJ [d,md]= .ok (.lst [.bl true,.bl false]):=λ d hd=>by
 have o:=of f0 (by simp)
 have ep:(f0::gs).map (bN w h)=((w,h,f0)::gs.map λ f=>((w,h,f):P3)).map p3:=by
  rw[z1h,z1h,List.map_map];rfl
 have o3:∀t∈(w,h,f0)::gs.map (λ f=>((w,h,f):P3)),Ok t.1 t.2.1 t.2.2:=λ t ht=>by
  rcases List.mem_cons.mp ht with rfl |z
  ·exact o
  ·obtain⟨f,hf,rfl⟩:=List.mem_map.mp z
   exact of f (by simp[hf])
 refine ahL (aa8 ?_)
 simp only[List.cons_append,List.nil_append,List.mem_cons,List.not_mem_nil,or_false] at hd
 rcases hd with rfl |rfl |rfl |rfl |rfl |rfl |rfl
 ·exact afS
 ·exact afT
 ·exact V0
 ·rw[ep];exact ad4 o3 (by simp;omega)
 ·have:(f0::gs).map (bN w h)++[bN w (h+1) (sW h f0)]=((w,h,f0)::(gs.map (λ f=>((w,h,f):P3))++[(w,h+1,sW h f0)])).map p3:=by
   rw[ep,z1h,z1h,List.map_append];rfl
  rw [this,V1 (λ t ht=>by
   rcases List.mem_cons.mp ht with z |z
   ·exact o3 t (by rw[z];simp)
   ·rcases List.mem_append.mp z with z |z
    ·exact o3 t (z2f _ z)
    ·rw[List.mem_singleton.mp z];exact o.ana hh) (by simp;omega)]
  congr 2
  rw[List.all_eq_false]
  exact⟨(w,h+1,sW h f0),by simp,by simp⟩
 ·rw[show ([bN w h f0,bN (w+1) h (Ck w f0)]:List D)=((w,h,f0)::[((w+1,h,Ck w f0):P3)]).map p3 from rfl,V1 (λ t ht=>by
   rcases List.mem_cons.mp ht with z |z
   ·rw[z];exact o
   ·rw[List.mem_singleton.mp z];exact o.wide hw) (by simp)]
  congr 2
  rw[List.all_eq_false]
  exact⟨(w+1,h,Ck w f0),by simp,by simp⟩
 ·exact V0
theorem ad5 {f0:Nat->Nat->Int} {gs:List (Nat->Nat->Int)} (hw:w<=4) (hh:h<=4) (hm:m= "worth"\/m= "joins") (of:∀f∈f0::gs,Ok w h f) (hl:gs.length<=2) {e0:Option Ent}:
  lwT [e0,vA (.int (w:Int)),vA (.int (h:Int)),vA (.str m),vA (.lst ((f0::gs).map (bN w h))),none,none,none,none,none,none,none]= .rt (.bl true):=by
 have o:=of f0 (by simp)
 have h1:=o.h1
 have hk:h - 1+1=h:=by omega
 have hl':gs.length<=100:=by omega
 obtain⟨s,en,hs⟩:=Iv (T:=Ts m w h (f0::gs)) o
 obtain⟨b,z7,z8,e,hb⟩:=aao (w:=w) (h:=h) (fs:=f0::gs) hm h1 of (by simp;omega) (e0:=e0) (e1:=vA (.int (w:Int))) (e2:=vA (.int (h:Int))) (e5:=vA (.lst ((f0::gs).map (bN w h)))) (e9:=none) (e10:=none) (VR:=none) (ws:=nA w (h - 1)) (seen:=[]) (b:=none) (e7:=none) (e8:=none) (λ l hl=>by have:=Ay.mp hl;rwa [hk] at this) (λ s hs=>by cases hs)
 rw[List.nil_append] at hb
 obtain⟨s',rfl,eb⟩:=ad3 o hb en hs
 refine aV (bB (bC (aB rfl) rfl) rfl) (aV (bB rfl rfl) (aV (oG (gM (bH (aF rfl (aB rfl)) (ahJ hw h1 hh))) e) ?_))
 refine aV (dB (m8 (bf (au (lK (aB rfl) (aB rfl) (Fx hm of hl')) (au rfl rfl (o7 (i:=1) rfl)) (Pu.mZ eb V2))) (bf (au rfl rfl (Pu.mZ rfl afW)))) rfl) ?_
 refine aV (bB (au rfl rfl (wG (i:=0) rfl)) rfl) ?_
 refine aV (dB (bf (au (lK (aB (dR (aB rfl))) (aB rfl) (ahP hm o)) (Vv (aB rfl) (aB rfl) (Du hm o (Rk o))) (Pu.mZ rfl V2))) rfl) ?_
 refine aV (dB (bf (au (lK (aB (au (dR (aB rfl)) rfl rfl)) rfl (ahQ o)) (Vv (aB rfl) rfl (Du (.inl rfl) o (Rk o))) (Pu.mZ rfl V2))) rfl) ?_
 have ow:=o.w2
 have oh:=o.h2
 refine aV (bB (dR (aF rfl (aF (dR rfl) (aF (bC (aB rfl) rfl) (aF (au rfl (dR (aB rfl)) (Il (by simp;omega))) (aB (au rfl (dR (aB (au rfl (ahw (n:=1) (ds:=(List.range h).map λ y=>row w (f0 y)) rfl rfl (by simp;omega)) ((Ar (by simp;omega)).trans (congrArg R.ok (ahR h1)))))) (Il (by simp;omega))))))))) rfl) ?_
 refine aV (bB (au rfl (dR (aF (dR (aF rfl (aB (bC (aB (cj (c:=λ y=>row w (f0 y)) (h:=λ y=>row (w+1) (Ck w f0 y)) (l:=List.range h) (nO rfl) (by rw[z2d];omega) λ y Z=>cM rfl (au rfl (fK (aB rfl)) ((Ar (by simp;omega)).trans (congrArg R.ok afX))))) rfl)))) (aB rfl))) (Il (by simp))) rfl) ?_
 refine aV (dB (bf (au (aas (gM rfl) (by simp) λ d hd=>(Ov rfl (bf (au (bH (aF rfl (aB rfl)) (ahS hw hh of hl d hd)) (dR rfl) (Pu.mZ rfl (by simp[dep,deps])))) rfl).trans rfl) (dR rfl) rfl)) rfl) ?_
 refine aV (bB (dR (aF rfl (aF rfl (aF rfl (aF (fK rfl) (aB rfl)))))) rfl) ?_
 exact bM (au (aas (gM rfl) (by simp) λ d hd=>(Ov rfl (bf (au (bH (aF rfl (aB rfl)) (ajF (aa9 (aaq of hl') (ahN d hd)))) (dR rfl) (Pu.mZ rfl (by simp[dep,deps])))) rfl).trans rfl) (dR rfl) rfl)
theorem ad6 (hns:ns.length<=1000000):∃m:Str,(m= "worth"\/m= "joins")/\jN [.lst (ns.map .int),.int 2]= .ok (.str m):=by
 obtain⟨e1,h0,h2⟩:=Bx (k:=2) (m:=2) hns (by omega) (by omega)
 obtain⟨d,hd,ed⟩:=NQ (xs:=[D.str "worth",.str "joins"]) h0 h2
 simp only[List.mem_cons,List.not_mem_nil,or_false] at hd
 rcases hd with rfl |rfl
 ·exact⟨"worth",.inl rfl,cL (bM (au (x:= .lst [D.str "worth",.str "joins"]) (dR rfl) (bH (aF rfl (aF rfl (aB rfl))) e1) (Ei ed)))⟩
 ·exact⟨"joins",.inr rfl,cL (bM (au (x:= .lst [D.str "worth",.str "joins"]) (dR rfl) (bH (aF rfl (aF rfl (aB rfl))) e1) (Ei ed)))⟩
theorem afY (ns:List Int) (hns:ns.length<=63):K9 [.lst (ns.map .int)]= .ok (.bl true):=by
 have hn:ns.length<=1000000:=by omega
 obtain⟨d1,a1,a2⟩:=Bx (k:=0) (m:=4) hn (by omega) (by omega)
 obtain⟨d2,b1,b2⟩:=Bx (k:=1) (m:=3) hn (by omega) (by omega)
 obtain⟨d3,c1,c2⟩:=Bx (k:=3) (m:=3) hn (by omega) (by omega)
 obtain⟨m,hm,e3⟩:=ad6 (ns:=ns) hn
 obtain⟨w,ew⟩:=Int.eq_ofNat_of_zero_le (show 0<=1+dr ns 0 4 by omega)
 obtain⟨h,eh⟩:=Int.eq_ofNat_of_zero_le (show 0<=1+dr ns 1 3 by omega)
 obtain⟨n,e_n⟩:=Int.eq_ofNat_of_zero_le (show 0<=1+dr ns 3 3 by omega)
 have hw:w<=4:=by omega
 have hh:h<=3:=by omega
 have pk:∀k:Nat,∃f,k < 3->gZ [.lst (ns.map .int),.int (10+30*(k:Int)),.int (w:Int),.int (h:Int)]= .ok (bN w h f)/\Ok w h f:=λ k=>by
  by_cases hk:k < 3
  ·obtain⟨f,e,o⟩:=aa2 (ns:=ns) (a:=10+30*(k:Int)) (w:=w) (h:=h) hn (by omega) (by omega) (by omega) (by omega) (by omega)
   exact⟨f,λ Z=>⟨e,o⟩⟩
  ·exact⟨λ Z Z=>0,λ z=>absurd z hk⟩
 obtain⟨g,hg⟩:=Classical.skolem.mp pk
 have en:(List.range n).map (λ k=>bN w h (g k))=(g 0::(List.range (n - 1)).map λ k=>g (k+1)).map (bN w h):=by
  obtain⟨j,rfl⟩:∃j,n=j+1:=⟨n - 1,by omega⟩
  rw[List.range_succ_eq_map,z1h,z1h,List.map_map,List.map_map];rfl
 refine mj (aV (bB (fK (aF (au rfl (bH (aF rfl (aF rfl (aB rfl))) d1) (congrArg (λ z=>R.ok (D.int z)) ew)) (aF (au rfl (bH (aF rfl (aF rfl (aB rfl))) d2) (congrArg (λ z=>R.ok (D.int z)) eh)) (aB (bH (aF rfl (aB rfl)) e3))))) rfl) ?_)
 refine aV (bB (d:= .lst ((g 0::(List.range (n - 1)).map λ k=>g (k+1)).map (bN w h))) ?_ rfl) (ad5 (f0:=g 0) (gs:=(List.range (n - 1)).map λ k=>g (k+1)) hw (by omega) hm (λ f hf=>?_) (by simp;omega))
 ·rw[<-en]
  exact cj (c:=λ (k:Nat)=>D.int (k:Int)) (h:=λ k=>bN w h (g k)) (l:=List.range n) (m7 (aB (au rfl (bH (aF rfl (aF rfl (aB rfl))) d3) (congrArg (λ z=>R.ok (D.int z)) e_n))) (by omega)) (by rw[z2d];omega) λ k hk=>cM rfl (bH (aF rfl (aF (au rfl (au rfl rfl rfl) rfl) (aF rfl (aB rfl)))) (hg k (by have:=z2e hk;omega)).1)
 ·rcases List.mem_cons.mp hf with z |z
  ·rw[z];exact (hg 0 (by omega)).2
  ·obtain⟨k,hk,rfl⟩:=List.mem_map.mp z
   exact (hg (k+1) (by have:=z2e hk;omega)).2
end
end K8
namespace K8
open PySem PySem.Spec L2 Pu
open PyProof.Rows hiding St
theorem wZ {us:List Value} {n:Nat} (hl:us.length=n+1):∃a u,us=a::u/\u.length=n:=by
 cases us with
 |nil=>injection hl
 |cons a u=>exact⟨a,u,rfl,Nat.succ.inj hl⟩
theorem w5 {F:FuncData} {ps:List Str} {us:List Value} (hl:us.length=1) (h:∀a0,bindArgs F ⟨[a0],[]⟩=pure (ps.zip [a0])):bindArgs F ⟨us,[]⟩=pure (ps.zip us):=by
 obtain⟨a0,u1,rfl,h1⟩:=wZ hl
 cases List.eq_nil_of_length_eq_zero h1
 exact h a0
theorem Az {F:FuncData} {ps:List Str} {us:List Value} (hl:us.length=2) (h:∀a0 a1,bindArgs F ⟨[a0,a1],[]⟩=pure (ps.zip [a0,a1])):bindArgs F ⟨us,[]⟩=pure (ps.zip us):=by
 obtain⟨a0,u1,rfl,h1⟩:=wZ hl
 obtain⟨a1,u2,rfl,h2⟩:=wZ h1
 cases List.eq_nil_of_length_eq_zero h2
 exact h a0 a1
theorem Rt {F:FuncData} {ps:List Str} {us:List Value} (hl:us.length=3) (h:∀a0 a1 a2,bindArgs F ⟨[a0,a1,a2],[]⟩=pure (ps.zip [a0,a1,a2])):bindArgs F ⟨us,[]⟩=pure (ps.zip us):=by
 obtain⟨a0,u1,rfl,h1⟩:=wZ hl
 obtain⟨a1,u2,rfl,h2⟩:=wZ h1
 obtain⟨a2,u3,rfl,h3⟩:=wZ h2
 cases List.eq_nil_of_length_eq_zero h3
 exact h a0 a1 a2
theorem lk4 {F:FuncData} {ps:List Str} {us:List Value} (hl:us.length=4) (h:∀a0 a1 a2 a3,bindArgs F ⟨[a0,a1,a2,a3],[]⟩=pure (ps.zip [a0,a1,a2,a3])):bindArgs F ⟨us,[]⟩=pure (ps.zip us):=by
 obtain⟨a0,u1,rfl,h1⟩:=wZ hl
 obtain⟨a1,u2,rfl,h2⟩:=wZ h1
 obtain⟨a2,u3,rfl,h3⟩:=wZ h2
 obtain⟨a3,u4,rfl,h4⟩:=wZ h3
 cases List.eq_nil_of_length_eq_zero h4
 exact h a0 a1 a2 a3
theorem lk5 {F:FuncData} {ps:List Str} {us:List Value} (hl:us.length=5) (h:∀a0 a1 a2 a3 a4,bindArgs F ⟨[a0,a1,a2,a3,a4],[]⟩=pure (ps.zip [a0,a1,a2,a3,a4])):bindArgs F ⟨us,[]⟩=pure (ps.zip us):=by
 obtain⟨a0,u1,rfl,h1⟩:=wZ hl
 obtain⟨a1,u2,rfl,h2⟩:=wZ h1
 obtain⟨a2,u3,rfl,h3⟩:=wZ h2
 obtain⟨a3,u4,rfl,h4⟩:=wZ h3
 obtain⟨a4,u5,rfl,h5⟩:=wZ h4
 cases List.eq_nil_of_length_eq_zero h5
 exact h a0 a1 a2 a3 a4
noncomputable def top (i:Nat):Stmt:=PySem.Challenge.pw_seamhall_k14_common.main.body.getD i (.Pass ⟨0,0,0,0⟩)
noncomputable abbrev jP:Stmt:=top 50
theorem abb:FnScope ["_law_picture_here","_law_x","_law_y"] ["_law_picture_here","_law_x","_law_y"] (defScope jP):=⟨rfl,rfl,rfl,by decide +kernel,rfl,by decide +kernel,by decide +kernel⟩
noncomputable abbrev iB:Stmt:=top 51
theorem w6:FnScope ["_law_picture_here","_law_mode","_law_x","_law_y","_law_before","_law_found"] ["_law_picture_here","_law_mode","_law_x","_law_y","_law_before"] (defScope iB):=⟨rfl,rfl,rfl,by decide +kernel,rfl,by decide +kernel,by decide +kernel⟩
noncomputable abbrev iC:Stmt:=top 52
theorem Fy:FnScope ["_law_picture_here","_law_mode","_law_seam","_law_befores"] ["_law_picture_here","_law_mode","_law_seam"] (defScope iC):=⟨rfl,rfl,rfl,by decide +kernel,rfl,by decide +kernel,by decide +kernel⟩
noncomputable abbrev gD:Stmt:=top 48
theorem d8:FnScope ["_law_script","_law_k","_law_many","_law_cell","_law_turn","_law_rest"] ["_law_script","_law_k","_law_many"] (defScope gD):=⟨rfl,rfl,rfl,by decide +kernel,rfl,by decide +kernel,by decide +kernel⟩
noncomputable abbrev fU:Stmt:=top 54
theorem OD:FnScope ["_law_script","_law_at_here"] ["_law_script","_law_at_here"] (defScope fU):=⟨rfl,rfl,rfl,by decide +kernel,rfl,by decide +kernel,by decide +kernel⟩
noncomputable abbrev jk:Stmt:=top 29
theorem Yc:FnScope ["picture"] ["picture"] (defScope jk):=⟨rfl,rfl,rfl,by decide +kernel,rfl,by decide +kernel,by decide +kernel⟩
noncomputable abbrev qy:Stmt:=top 18
theorem aat:FnScope ["line","last"] ["line"] (defScope qy):=⟨rfl,rfl,rfl,by decide +kernel,rfl,by decide +kernel,by decide +kernel⟩
noncomputable abbrev gF:Stmt:=top 32
theorem gP:FnScope ["picture","y","row","above","last","told","x","gap","from_left","from_right"] ["picture","y"] (defScope gF):=⟨rfl,rfl,rfl,by decide +kernel,rfl,by decide +kernel,by decide +kernel⟩
noncomputable abbrev jQ:Stmt:=top 11
theorem abd:FnScope ["thing"] ["thing"] (defScope jQ):=⟨rfl,rfl,rfl,by decide +kernel,rfl,by decide +kernel,by decide +kernel⟩
noncomputable abbrev jm:Stmt:=top 9
theorem Yd:FnScope ["thing"] ["thing"] (defScope jm):=⟨rfl,rfl,rfl,by decide +kernel,rfl,by decide +kernel,by decide +kernel⟩
noncomputable abbrev jR:Stmt:=top 10
theorem abe:FnScope ["thing"] ["thing"] (defScope jR):=⟨rfl,rfl,rfl,by decide +kernel,rfl,by decide +kernel,by decide +kernel⟩
noncomputable abbrev lQ:Stmt:=top 12
theorem ad7:FnScope ["thing"] ["thing"] (defScope lQ):=⟨rfl,rfl,rfl,by decide +kernel,rfl,by decide +kernel,by decide +kernel⟩
noncomputable abbrev gG:Stmt:=top 13
theorem RP:FnScope ["thing"] ["thing"] (defScope gG):=⟨rfl,rfl,rfl,by decide +kernel,rfl,by decide +kernel,by decide +kernel⟩
noncomputable abbrev eU:Stmt:=top 14
theorem Li:FnScope ["thing"] ["thing"] (defScope eU):=⟨rfl,rfl,rfl,by decide +kernel,rfl,by decide +kernel,by decide +kernel⟩
noncomputable abbrev jT:Stmt:=top 15
theorem abf:FnScope ["picture"] ["picture"] (defScope jT):=⟨rfl,rfl,rfl,by decide +kernel,rfl,by decide +kernel,by decide +kernel⟩
noncomputable abbrev lR:Stmt:=top 16
theorem Ru:FnScope ["picture","wide","high"] ["picture"] (defScope lR):=⟨rfl,rfl,rfl,by decide +kernel,rfl,by decide +kernel,by decide +kernel⟩
noncomputable abbrev lU:Stmt:=top 19
theorem yK:FnScope ["picture","wide","high","across","down"] ["picture"] (defScope lU):=⟨rfl,rfl,rfl,by decide +kernel,rfl,by decide +kernel,by decide +kernel⟩
noncomputable abbrev nQ:Stmt:=top 33
theorem afZ:FnScope ["picture","manner"] ["picture","manner"] (defScope nQ):=⟨rfl,rfl,rfl,by decide +kernel,rfl,by decide +kernel,by decide +kernel⟩
noncomputable abbrev fV:Stmt:=top 44
theorem OJ:FnScope ["thing"] ["thing"] (defScope fV):=⟨rfl,rfl,rfl,by decide +kernel,rfl,by decide +kernel,by decide +kernel⟩
noncomputable abbrev jU:Stmt:=top 34
theorem abg:FnScope ["row","above","place"] ["row","above","place"] (defScope jU):=⟨rfl,rfl,rfl,by decide +kernel,rfl,by decide +kernel,by decide +kernel⟩
noncomputable abbrev qz:Stmt:=top 31
theorem ahT:FnScope ["place","wide"] ["place","wide"] (defScope qz):=⟨rfl,rfl,rfl,by decide +kernel,rfl,by decide +kernel,by decide +kernel⟩
noncomputable abbrev lV:Stmt:=top 36
theorem tR:FnScope ["beneath","row","x","told","place","fare"] ["beneath","row","x"] (defScope lV):=⟨rfl,rfl,rfl,by decide +kernel,rfl,by decide +kernel,by decide +kernel⟩
noncomputable abbrev nR:Stmt:=top 37
theorem lW:FnScope ["table","marks","start","gather","rows","y","row","x","mark","told","lost"] ["table","marks","start","gather"] (defScope nR):=⟨rfl,rfl,rfl,by decide +kernel,rfl,by decide +kernel,by decide +kernel⟩
noncomputable abbrev gq:Stmt:=top 38
theorem Fz:FnScope ["table","marks","many","first_ones"] ["table","marks","many"] (defScope gq):=⟨rfl,rfl,rfl,by decide +kernel,rfl,by decide +kernel,by decide +kernel⟩
noncomputable abbrev jo:Stmt:=top 39
theorem oM:FnScope ["table","rows","told","x","cell","fare"] ["table","rows"] (defScope jo):=⟨rfl,rfl,rfl,by decide +kernel,rfl,by decide +kernel,by decide +kernel⟩
noncomputable abbrev fW:Stmt:=top 40
theorem O5:FnScope ["table","marks","many"] ["table","marks","many"] (defScope fW):=⟨rfl,rfl,rfl,by decide +kernel,rfl,by decide +kernel,by decide +kernel⟩
noncomputable abbrev iG:Stmt:=top 41
theorem xg:FnScope ["table","marks","found","less","cost","seam"] ["table","marks"] (defScope iG):=⟨rfl,rfl,rfl,by decide +kernel,rfl,by decide +kernel,by decide +kernel⟩
noncomputable abbrev fX:Stmt:=top 25
theorem O6:FnScope ["thing"] ["thing"] (defScope fX):=⟨rfl,rfl,rfl,by decide +kernel,rfl,by decide +kernel,by decide +kernel⟩
noncomputable abbrev jV:Stmt:=top 45
theorem abh:FnScope ["one","other"] ["one","other"] (defScope jV):=⟨rfl,rfl,rfl,by decide +kernel,rfl,by decide +kernel,by decide +kernel⟩
noncomputable abbrev cH:Stmt:=top 46
theorem nU:FnScope ["pictures","manner","table","picture"] ["pictures","manner"] (defScope cH):=⟨rfl,rfl,rfl,by decide +kernel,rfl,by decide +kernel,by decide +kernel⟩
noncomputable abbrev jW:Stmt:=top 55
theorem Lj:FnScope ["_law_pictures","_law_mode","e"] ["_law_pictures","_law_mode"] (defScope jW):=⟨rfl,rfl,rfl,by decide +kernel,rfl,by decide +kernel,by decide +kernel⟩
noncomputable abbrev eV:Stmt:=top 49
theorem qC:FnScope ["_law_script","_law_at_here","_law_broad","_law_tall","_law_most","_law_rows","_law_y"] ["_law_script","_law_at_here","_law_broad","_law_tall"] (defScope eV):=⟨rfl,rfl,rfl,by decide +kernel,rfl,by decide +kernel,by decide +kernel⟩
noncomputable abbrev iH:Stmt:=top 53
theorem jD:FnScope ["_law_broad","_law_tall","_law_found","_law_y","_law_more","_law_way"] ["_law_broad","_law_tall"] (defScope iH):=⟨rfl,rfl,rfl,by decide +kernel,rfl,by decide +kernel,by decide +kernel⟩
noncomputable abbrev jX:Stmt:=top 26
theorem abj:FnScope ["thing"] ["thing"] (defScope jX):=⟨rfl,rfl,rfl,by decide +kernel,rfl,by decide +kernel,by decide +kernel⟩
noncomputable abbrev eX:Stmt:=top 27
theorem Ln:FnScope ["thing","wide"] ["thing","wide"] (defScope eX):=⟨rfl,rfl,rfl,by decide +kernel,rfl,by decide +kernel,by decide +kernel⟩
noncomputable abbrev jq:Stmt:=top 28
theorem Ye:FnScope ["thing","picture"] ["thing","picture"] (defScope jq):=⟨rfl,rfl,rfl,by decide +kernel,rfl,by decide +kernel,by decide +kernel⟩
noncomputable abbrev gH:Stmt:=top 30
theorem RQ:FnScope ["thing","picture"] ["thing","picture"] (defScope gH):=⟨rfl,rfl,rfl,by decide +kernel,rfl,by decide +kernel,by decide +kernel⟩
noncomputable abbrev jr:Stmt:=top 35
theorem Jc:FnScope ["picture","manner","marks","marked"] ["picture","manner","marks"] (defScope jr):=⟨rfl,rfl,rfl,by decide +kernel,rfl,by decide +kernel,by decide +kernel⟩
noncomputable abbrev cQ:Stmt:=top 43
theorem um:FnScope ["picture","manner","marks","table","marked","found"] ["picture","manner","marks"] (defScope cQ):=⟨rfl,rfl,rfl,by decide +kernel,rfl,by decide +kernel,by decide +kernel⟩
noncomputable abbrev o9:Stmt:=top 56
theorem mq:FnScope ["_law_script","_law_broad","_law_tall","_law_mode","_law_pictures","_law_kept","_law_best","_law_way","_law_here","_law_first","_law_bad","_law_odd"] ["_law_script"] (defScope o9):=⟨rfl,rfl,rfl,by decide +kernel,rfl,by decide +kernel,by decide +kernel⟩
noncomputable abbrev jE:Stmt:=(defBody gq).getD 0 (.Pass ⟨0,0,0,0⟩)
theorem RT:N8 ["x","told","many"] ["x","told"] "many" (defScope jE):=⟨rfl,rfl,rfl,by decide +kernel,rfl,by decide +kernel,by decide +kernel,by decide +kernel,by decide +kernel⟩
structure Txt (K:PySem.W.Frag) (mg:Str->Option Value):Prop where
 Ba:∃t,mg "FREE" =some (.int 0 t)
 Bb:∃t,mg "GONE" =some (.int 2 t)
 FJ:∃t,mg "KEPT" =some (.int 1 t)
 oN:∃t,mg "MOST_CELL" =some (.int 99 t)
 oO:∃t,mg "MOST_LONG" =some (.int 20 t)
 tU:afq K mg "MANNERS" ["worth","joins"]
 sX:mg "abs" =none
 qD:mg "all" =none
 FN:mg "bool" =none
 jw:mg "enumerate" =none
 Lp:mg "int" =none
 dJ:mg "isinstance" =none
 fH:mg "len" =none
 xq:mg "list" =none
 sY:mg "max" =none
 vN:mg "min" =none
 gb:mg "range" =none
 qF:mg "reversed" =none
 rG:mg "sorted" =none
 Iw:mg "sum" =none
 gO:mg "tuple" =none
 Cm:mg "zip" =none
 Lq:∀d:D,PySem.W.kitOne K (.type (mY d)) (.type "int")=some (HN (mY d))
 FQ:∀d:D,PySem.W.kitOne K (.type (mY d)) (.type "bool")=some (Bu (mY d))
 rH:∀d:D,PySem.W.kitOne K (.type (mY d)) (.type "tuple")=some (lG (mY d))
 FW:∀d:D,PySem.W.kitOne K (.type (mY d)) (.type "list")=some (Bv (mY d))
 Cp:∃C,XCl K mg "NoManner" C
 xr:∃C,XCl K mg "NoPictures" C
 za:∃C,mg "SeamError" =some (.ref C)/\∀c C',j9 c "SeamError" =true->PySem.W.nsIn K mainGlobals c=some (some (.ref C'))->PySem.W.exmOne K (.ref C') (.ref C)=some true
 qG:∃C,mg "NoManner" =some (.ref C)/\∀c C',j9 c c=true->PySem.W.nsIn K mainGlobals c=some (some (.ref C'))->IK K C'/\PySem.W.kitOne K (.ref C') (.ref C)=some (j9 c "NoManner")
 nD:∃C,mg "NoPictures" =some (.ref C)/\∀c C',j9 c c=true->PySem.W.nsIn K mainGlobals c=some (some (.ref C'))->IK K C'/\PySem.W.kitOne K (.ref C') (.ref C)=some (j9 c "NoPictures")
section
variable {P:Program} {w:World} {K:PySem.W.Frag} {mg:Str->Option Value} {base:Heap}
theorem abk {f:Addr} {cdv:Value} {A:Around} {outer:List PySem.Env} {s:Shared} {H:Hp} {E:XK} (T:Txt K mg)  (hr:Room 0 (A.deeper (envOfC "_law_at" (defScope jP) s.heap.objs.size f cdv))):cX (cxOf CX0 P w K mg base ["_law_picture_here","_law_x","_law_y"] "_law_at" (defScope jP) f cdv A outer s H E).nox (defBody jP) EY:=by
 exact (aW (bK (bY (bY (dv 0) (bA (Ak rfl) rfl T.sY boot_max (aj aU (aj (bA (Ej rfl) rfl T.vN boot_min (aj (aX dX (bA fj rfl T.fH PySem.boot_len (aj (dv 0) aA)) aU) (aj (dv 2) aA))) aA)))) (bA (Ak rfl) rfl T.sY boot_max (aj aU (aj (bA (Ej rfl) rfl T.vN boot_min (aj (aX dX (bA fj rfl T.fH PySem.boot_len (aj (bY (dv 0) aU) aA)) aU) (aj (dv 1) aA))) aA))))))
theorem abl {f:Addr} {fd:FuncData} (Fn:Fun K "_law_at" "_law_at" jP f fd) (hmg:mg "_law_at" =some (.ref f)) (hb:Binds K fd ["_law_picture_here","_law_x","_law_y"] []) (T:Txt K mg)  :aZ P w K mg base 1 "_law_at" 3 iQ:=
 cU (k:=0) (g:=EY) Fn hmg hb abb rfl rfl λ cdv A outer s H E hr=>abk T  hr
theorem V3 {f:Addr} {cdv:Value} {A:Around} {outer:List PySem.Env} {s:Shared} {H:Hp} {E:XK} (T:Txt K mg) (lM:aZ P w K mg base 1 "_law_at" 3 iQ) (hr:Room 1 (A.deeper (envOfC "_law_step" (defScope iB) s.heap.objs.size f cdv))):cX (cxOf CX0 P w K mg base ["_law_picture_here","_law_mode","_law_x","_law_y","_law_before","_law_found"] "_law_step" (defScope iB) f cdv A outer s H E).nox (defBody iB) yS:=by
 exact (aM (bU 5 w6.nd (bA Aj rfl T.sX boot_abs (aj (aX dX (bV lM hr (by decide) (aj (dv 0) (aj (aX dX (dv 2) aU) (aj (dv 3) aA)))) (bV lM hr (by decide) (aj (dv 0) (aj (aX cC (dv 2) aU) (aj (dv 3) aA))))) aA))) (aM (gU (dg (yG (gC hr)) (dv 1) nZ) (aW (bK (aX cC (dv 5) (bA Aj rfl T.sX boot_abs (aj (aX dX (bV lM hr (by decide) (aj (dv 0) (aj (dv 2) (aj (aX dX (dv 3) aU) aA)))) (bV lM hr (by decide) (aj (dv 0) (aj (dv 2) (aj (aX cC (dv 3) aU) aA))))) aA))))) dW) (aM (gU (DW.dt (Kr (dg afl (dv 4) mU) (Hz (dg (sS (gC hr)) (dv 4) (dv 2))))) (aW (bU 5 w6.nd (aX cC (dv 5) (bA Aj rfl T.sX boot_abs (aj (aX dX (bY (bY (dv 0) (aX dX (dv 3) aU)) (dv 2)) (bY (bY (dv 0) (dv 3)) (aaD (dg aaB (dv 4) (dv 2)) (aX dX (dv 2) aU) (aX cC (dv 2) aU)))) aA))))) dW) (aW (bK (dv 5))))))
theorem V4 {f:Addr} {fd:FuncData} (Fn:Fun K "_law_step" "_law_step" iB f fd) (hmg:mg "_law_step" =some (.ref f)) (hb:Binds K fd ["_law_picture_here","_law_mode","_law_x","_law_y","_law_before"] []) (T:Txt K mg) (lM:aZ P w K mg base 1 "_law_at" 3 iQ):aZ P w K mg base 2 "_law_step" 5 iw:=
 cU (k:=1) (g:=yS) Fn hmg hb w6 rfl rfl λ cdv A outer s H E hr=>V3 T lM hr
theorem V5 {f:Addr} {cdv:Value} {A:Around} {outer:List PySem.Env} {s:Shared} {H:Hp} {E:XK} (T:Txt K mg) (oR:aZ P w K mg base 2 "_law_step" 5 iw) (hr:Room 2 (A.deeper (envOfC "_law_cost" (defScope iC) s.heap.objs.size f cdv))):cX (cxOf CX0 P w K mg base ["_law_picture_here","_law_mode","_law_seam","_law_befores"] "_law_cost" (defScope iC) f cdv A outer s H E).nox (defBody iC) yU:=by
 exact (aM (bU 3 Fy.nd (aX cC (eZ (aj mU aA)) (UJ (dv 2) wI (wJ (El aU))))) (aW (bK (bA (ac8 rfl) rfl T.Iw boot_sum (aj (cD ["_law_y","_law_x"] [3,1,0] rfl (by kernel_rfl) (by kernel_rfl) (Ie rfl T.jw (aj (dv 2) aA)) (lF (cF (bx (by decide)) (cF (bx (by decide)) lE))) (λ Z Z Z Z nd=>tE rfl (dj (bJ 0 nd) (dj (bJ 1 nd) pG))) (λ Z Z Z Z=>cB) (λ Z Z Z Z=>(bV oR hr (by decide) (aj (dv 4) (aj (dv 3) (aj (dv 1) (aj (dv 0) (aj (bY (dv 2) (dv 0)) aA)))))))) aA)))))
theorem V6 {f:Addr} {fd:FuncData} (Fn:Fun K "_law_cost" "_law_cost" iC f fd) (hmg:mg "_law_cost" =some (.ref f)) (hb:Binds K fd ["_law_picture_here","_law_mode","_law_seam"] []) (T:Txt K mg) (oR:aZ P w K mg base 2 "_law_step" 5 iw):aZ P w K mg base 3 "_law_cost" 3 kh:=
 cU (k:=2) (g:=yU) Fn hmg hb Fy rfl rfl λ cdv A outer s H E hr=>V5 T oR hr
theorem RV {f:Addr} {cdv:Value} {A:Around} {outer:List PySem.Env} {s:Shared} {H:Hp} {E:XK} (T:Txt K mg)  (hr:Room 0 (A.deeper (envOfC "_law_drawn" (defScope gD) s.heap.objs.size f cdv))):cX (cxOf CX0 P w K mg base ["_law_script","_law_k","_law_many","_law_cell","_law_turn","_law_rest"] "_law_drawn" (defScope gD) f cdv A outer s H E).nox (defBody gD) wQ:=by
 exact (aM (bU 3 d8.nd (aX tu aU (dv 1))) (aM (gU (dg (sS (gC hr)) (dv 0) (fJ aA)) (aM (bU 3 d8.nd (bY (dv 0) (aX tD (dv 1) (bA fj rfl T.fH PySem.boot_len (aj (dv 0) aA))))) (aM (bU 4 d8.nd (aX wj (dv 1) (bA fj rfl T.fH PySem.boot_len (aj (dv 0) aA)))) (aM (gU (DW.dt (Kr (dg alB (dv 3) (aX acZ aU aU)) (Hz (dg aaB (dv 4) aU)))) (aM (bU 5 d8.nd (aX wj (dv 3) (aX acZ aU aU))) (aM (afd 64 PassesOwn.never (DW.dt (Kr (dg aaC (dv 5) aU) (Hz (dg aaC (dv 4) aU)))) (aM (bU 5 d8.nd (aX wj (dv 5) aU)) (aW (bU 4 d8.nd (aX dX (dv 4) aU))))) (aW (gU (dg aaC (dv 5) aU) (aW (bK (aX tD (aX tD (dv 5) aU) (dv 2)))) dW)))) dW) (aW (bU 3 d8.nd (aX tM (dv 3) (aX tu aU (aX wj (dv 1) (bA fj rfl T.fH PySem.boot_len (aj (dv 0) aA)))))))))) dW) (aM (bU 3 d8.nd (aX tD (aX tM (aX tu (aX tD (dv 3) aU) aU) (aX tu aU (aX tM (dv 1) aU))) aU)) (aM (bU 3 d8.nd (aX tD (aX tM (aX tu (dv 3) (dv 3)) (aX wj (dv 3) aU)) aU)) (aW (bK (aX tD (aX wj (aX tD (aX tM (aX tu (dv 3) (dv 3)) (aX wj (dv 3) aU)) aU) aU) (dv 2))))))))
theorem RW {f:Addr} {fd:FuncData} (Fn:Fun K "_law_drawn" "_law_drawn" gD f fd) (hmg:mg "_law_drawn" =some (.ref f)) (hb:Binds K fd ["_law_script","_law_k","_law_many"] []) (T:Txt K mg)  :aZ P w K mg base 1 "_law_drawn" 3 cJ:=
 cU (k:=0) (g:=wQ) Fn hmg hb d8 rfl rfl λ cdv A outer s H E hr=>RV T  hr
theorem O7 {f:Addr} {cdv:Value} {A:Around} {outer:List PySem.Env} {s:Shared} {H:Hp} {E:XK} (T:Txt K mg) (bZ:aZ P w K mg base 1 "_law_drawn" 3 cJ) (hr:Room 1 (A.deeper (envOfC "_law_manner" (defScope fU) s.heap.objs.size f cdv))):cX (cxOf CX0 P w K mg base ["_law_script","_law_at_here"] "_law_manner" (defScope fU) f cdv A outer s H E).nox (defBody fU) uc:=by
 exact (aW (bK (bY (fJ (aj nZ (aj nZ aA))) (bV bZ hr (by decide) (aj (dv 0) (aj (dv 1) (aj aU aA)))))))
theorem O8 {f:Addr} {fd:FuncData} (Fn:Fun K "_law_manner" "_law_manner" fU f fd) (hmg:mg "_law_manner" =some (.ref f)) (hb:Binds K fd ["_law_script","_law_at_here"] []) (T:Txt K mg) (bZ:aZ P w K mg base 1 "_law_drawn" 3 cJ):aZ P w K mg base 2 "_law_manner" 2 jN:=
 cU (k:=1) (g:=uc) Fn hmg hb OD rfl rfl λ cdv A outer s H E hr=>O7 T bZ hr
theorem Yg {f:Addr} {cdv:Value} {A:Around} {outer:List PySem.Env} {s:Shared} {H:Hp} {E:XK} (T:Txt K mg)  (hr:Room 0 (A.deeper (envOfC "all_free" (defScope jk) s.heap.objs.size f cdv))):cX (cxOf CX0 P w K mg base ["picture"] "all_free" (defScope jk) f cdv A outer s H E).nox (defBody jk) BX:=by
 obtain⟨ajG,V7⟩:=T.Ba
 exact (aW (bK (aX Ia (eZ (aj (aX Ia (eZ (aj (qQ rfl V7) aA)) (bA fj rfl T.fH PySem.boot_len (aj (bY (dv 0) aU) aA))) aA)) (bA fj rfl T.fH PySem.boot_len (aj (dv 0) aA)))))
theorem Yh {f:Addr} {fd:FuncData} (Fn:Fun K "all_free" "all_free" jk f fd) (hmg:mg "all_free" =some (.ref f)) (hb:Binds K fd ["picture"] []) (T:Txt K mg)  :aZ P w K mg base 1 "all_free" 1 ji:=
 cU (k:=0) (g:=BX) Fn hmg hb Yc rfl rfl λ cdv A outer s H E hr=>Yg T  hr
theorem ahU {f:Addr} {cdv:Value} {A:Around} {outer:List PySem.Env} {s:Shared} {H:Hp} {E:XK} (T:Txt K mg)  (hr:Room 0 (A.deeper (envOfC "gaps" (defScope qy) s.heap.objs.size f cdv))):cX (cxOf CX0 P w K mg base ["line","last"] "gaps" (defScope qy) f cdv A outer s H E).nox (defBody qy) Vr:=by
 exact (aM (bU 1 aat.nd (aX dX (bA fj rfl T.fH PySem.boot_len (aj (dv 0) aA)) aU)) (aW (bK (cD ["at"] [1,0] rfl (by kernel_rfl) (by kernel_rfl) (iM rfl T.gb (aj (bA fj rfl T.fH PySem.boot_len (aj (dv 0) aA)) aA)) (bx (by decide)) (λ Z Z Z Z nd=>bJ 0 nd) (λ Z Z Z Z=>cB) (λ Z Z Z Z=>(bA Aj rfl T.sX boot_abs (aj (aX dX (bY (dv 2) (bA (Ak rfl) rfl T.sY boot_max (aj (aX dX (dv 0) aU) (aj aU aA)))) (bY (dv 2) (bA (Ej rfl) rfl T.vN boot_min (aj (aX cC (dv 0) aU) (aj (dv 1) aA))))) aA)))))))
theorem ahV {f:Addr} {fd:FuncData} (Fn:Fun K "gaps" "gaps" qy f fd) (hmg:mg "gaps" =some (.ref f)) (hb:Binds K fd ["line"] []) (T:Txt K mg)  :aZ P w K mg base 1 "gaps" 1 oJ:=
 cU (k:=0) (g:=Vr) Fn hmg hb aat rfl rfl λ cdv A outer s H E hr=>ahU T  hr
theorem RX {f:Addr} {cdv:Value} {A:Around} {outer:List PySem.Env} {s:Shared} {H:Hp} {E:XK} (T:Txt K mg) (nF:aZ P w K mg base 1 "gaps" 1 oJ) (hr:Room 1 (A.deeper (envOfC "join_fares" (defScope gF) s.heap.objs.size f cdv))):cX (cxOf CX0 P w K mg base ["picture","y","row","above","last","told","x","gap","from_left","from_right"] "join_fares" (defScope gF) f cdv A outer s H E).nox (defBody gF) wR:=by
 exact (aM (bU 2 gP.nd (bY (dv 0) (dv 1))) (aM (bU 3 gP.nd (bY (dv 0) (bA (Ak rfl) rfl T.sY boot_max (aj (aX dX (dv 1) aU) (aj aU aA))))) (aM (bU 4 gP.nd (aX dX (bA fj rfl T.fH PySem.boot_len (aj (dv 2) aA)) aU)) (aM (Ah 5 gP.nd aA) (aM (oA PassesOwn.never rfl (Ie rfl T.jw (aj (bV nF hr (by decide) (aj (dv 2) aA)) aA)) (Nz 6 7 rfl gP.nd) (aM (bU 8 gP.nd (aX cC (dv 7) (bA Aj rfl T.sX boot_abs (aj (aX dX (bY (dv 3) (dv 6)) (bY (dv 2) (bA (Ak rfl) rfl T.sY boot_max (aj (aX dX (dv 6) aU) (aj aU aA))))) aA)))) (aM (bU 9 gP.nd (aX cC (dv 7) (bA Aj rfl T.sX boot_abs (aj (aX dX (bY (dv 3) (dv 6)) (bY (dv 2) (bA (Ej rfl) rfl T.vN boot_min (aj (aX cC (dv 6) aU) (aj (dv 4) aA))))) aA)))) (aW (Ur 5 (eZ (aj (dv 8) (aj (dv 7) (aj (dv 9) aA))))))))) (aW (bK (dv 5))))))))
theorem RZ {f:Addr} {fd:FuncData} (Fn:Fun K "join_fares" "join_fares" gF f fd) (hmg:mg "join_fares" =some (.ref f)) (hb:Binds K fd ["picture","y"] []) (T:Txt K mg) (nF:aZ P w K mg base 1 "gaps" 1 oJ):aZ P w K mg base 2 "join_fares" 2 kO:=
 cU (k:=1) (g:=wR) Fn hmg hb gP rfl rfl λ cdv A outer s H E hr=>RX T nF hr
theorem abm {f:Addr} {cdv:Value} {A:Around} {outer:List PySem.Env} {s:Shared} {H:Hp} {E:XK} (T:Txt K mg)  (hr:Room 0 (A.deeper (envOfC "is_line" (defScope jQ) s.heap.objs.size f cdv))):cX (cxOf CX0 P w K mg base ["thing"] "is_line" (defScope jQ) f cdv A outer s H E).nox (defBody jQ) Fb:=by
 obtain⟨ajQ,Yi⟩:=T.oO
 exact (aW (bK (wk (vU (ans:=lG) T.rH (dv 0) rfl T.dJ boot_isinstance rfl T.gO boot_tuple) (Af (Jp Bm Bm aU (bA fj rfl T.fH PySem.boot_len (aj (dv 0) aA)) (qQ rfl Yi))))))
theorem abn {f:Addr} {fd:FuncData} (Fn:Fun K "is_line" "is_line" jQ f fd) (hmg:mg "is_line" =some (.ref f)) (hb:Binds K fd ["thing"] []) (T:Txt K mg)  :aZ P w K mg base 1 "is_line" 1 ju:=
 cU (k:=0) (g:=Fb) Fn hmg hb abd rfl rfl λ cdv A outer s H E hr=>abm T  hr
theorem Yj {f:Addr} {cdv:Value} {A:Around} {outer:List PySem.Env} {s:Shared} {H:Hp} {E:XK} (T:Txt K mg)  (hr:Room 0 (A.deeper (envOfC "is_whole" (defScope jm) s.heap.objs.size f cdv))):cX (cxOf CX0 P w K mg base ["thing"] "is_whole" (defScope jm) f cdv A outer s H E).nox (defBody jm) BZ:=by
 exact (aW (bK (wk (vU (ans:=HN) T.Lq (dv 0) rfl T.dJ boot_isinstance rfl T.Lp boot_int) (Af (aiM (vU (ans:=Bu) T.FQ (dv 0) rfl T.dJ boot_isinstance rfl T.FN boot_bool))))))
theorem Yk {f:Addr} {fd:FuncData} (Fn:Fun K "is_whole" "is_whole" jm f fd) (hmg:mg "is_whole" =some (.ref f)) (hb:Binds K fd ["thing"] []) (T:Txt K mg)  :aZ P w K mg base 1 "is_whole" 1 jj:=
 cU (k:=0) (g:=BZ) Fn hmg hb Yd rfl rfl λ cdv A outer s H E hr=>Yj T  hr
theorem abo {f:Addr} {cdv:Value} {A:Around} {outer:List PySem.Env} {s:Shared} {H:Hp} {E:XK} (T:Txt K mg) (iI:aZ P w K mg base 1 "is_whole" 1 jj) (hr:Room 1 (A.deeper (envOfC "is_cell" (defScope jR) s.heap.objs.size f cdv))):cX (cxOf CX0 P w K mg base ["thing"] "is_cell" (defScope jR) f cdv A outer s H E).nox (defBody jR) Fd:=by
 obtain⟨ajR,Yl⟩:=T.oN
 exact (aW (bK (wk (bV iI hr (by decide) (aj (dv 0) aA)) (Af (Jp Bm Bm aU (dv 0) (qQ rfl Yl))))))
theorem abp {f:Addr} {fd:FuncData} (Fn:Fun K "is_cell" "is_cell" jR f fd) (hmg:mg "is_cell" =some (.ref f)) (hb:Binds K fd ["thing"] []) (T:Txt K mg) (iI:aZ P w K mg base 1 "is_whole" 1 jj):aZ P w K mg base 2 "is_cell" 1 pN:=
 cU (k:=1) (g:=Fd) Fn hmg hb abe rfl rfl λ cdv A outer s H E hr=>abo T iI hr
theorem ad8 {f:Addr} {cdv:Value} {A:Around} {outer:List PySem.Env} {s:Shared} {H:Hp} {E:XK} (T:Txt K mg) (tV:aZ P w K mg base 2 "is_cell" 1 pN) (jz:aZ P w K mg base 1 "is_line" 1 ju) (hr:Room 2 (A.deeper (envOfC "is_row" (defScope lQ) s.heap.objs.size f cdv))):cX (cxOf CX0 P w K mg base ["thing"] "is_row" (defScope lQ) f cdv A outer s H E).nox (defBody lQ) JH:=by
 exact (aW (bK (wk (bV jz hr (by decide) (aj (dv 0) aA)) (Af (bA (wB rfl) rfl T.qD boot_all (aj (cD ["cell"] [] rfl (by kernel_rfl) (by kernel_rfl) (dO (dv 0)) (bx (by decide)) (λ Z Z Z Z nd=>bJ 0 nd) (λ Z Z Z Z=>cB) (λ Z Z Z Z=>(bV tV hr (by decide) (aj (dv 0) aA)))) aA))))))
theorem ad9 {f:Addr} {fd:FuncData} (Fn:Fun K "is_row" "is_row" lQ f fd) (hmg:mg "is_row" =some (.ref f)) (hb:Binds K fd ["thing"] []) (T:Txt K mg) (tV:aZ P w K mg base 2 "is_cell" 1 pN) (jz:aZ P w K mg base 1 "is_line" 1 ju):aZ P w K mg base 3 "is_row" 1 qW:=
 cU (k:=2) (g:=JH) Fn hmg hb ad7 rfl rfl λ cdv A outer s H E hr=>ad8 T tV jz hr
theorem R0 {f:Addr} {cdv:Value} {A:Around} {outer:List PySem.Env} {s:Shared} {H:Hp} {E:XK} (T:Txt K mg) (jz:aZ P w K mg base 1 "is_line" 1 ju) (xu:aZ P w K mg base 3 "is_row" 1 qW) (hr:Room 3 (A.deeper (envOfC "is_picture" (defScope gG) s.heap.objs.size f cdv))):cX (cxOf CX0 P w K mg base ["thing"] "is_picture" (defScope gG) f cdv A outer s H E).nox (defBody gG) wU:=by
 exact (aM (gU (DW.dt (HB (mV (sZ (bV jz hr (by decide) (aj (dv 0) aA)))) (Eb (mV (sZ (bA (wB rfl) rfl T.qD boot_all (aj (cD ["row"] [] rfl (by kernel_rfl) (by kernel_rfl) (dO (dv 0)) (bx (by decide)) (λ Z Z Z Z nd=>bJ 0 nd) (λ Z Z Z Z=>cB) (λ Z Z Z Z=>(bV xu hr (by decide) (aj (dv 0) aA)))) aA))))))) (aW (bK pU)) dW) (aW (bK (bA (wB rfl) rfl T.qD boot_all (aj (cD ["row"] [0] rfl (by kernel_rfl) (by kernel_rfl) (dO (dv 0)) (bx (by decide)) (λ Z Z Z Z nd=>bJ 0 nd) (λ Z Z Z Z=>cB) (λ Z Z Z Z=>(Kp (yG (gC hr)) (bA fj rfl T.fH PySem.boot_len (aj (dv 0) aA)) (bA fj rfl T.fH PySem.boot_len (aj (bY (dv 1) aU) aA))))) aA)))))
theorem R3 {f:Addr} {fd:FuncData} (Fn:Fun K "is_picture" "is_picture" gG f fd) (hmg:mg "is_picture" =some (.ref f)) (hb:Binds K fd ["thing"] []) (T:Txt K mg) (jz:aZ P w K mg base 1 "is_line" 1 ju) (xu:aZ P w K mg base 3 "is_row" 1 qW):aZ P w K mg base 4 "is_picture" 1 dD:=
 cU (k:=3) (g:=wU) Fn hmg hb RP rfl rfl λ cdv A outer s H E hr=>R0 T jz xu hr
theorem Lr {f:Addr} {cdv:Value} {A:Around} {outer:List PySem.Env} {s:Shared} {H:Hp} {E:XK} (T:Txt K mg) (fL:aZ P w K mg base 4 "is_picture" 1 dD) (hr:Room 4 (A.deeper (envOfC "need_picture" (defScope eU) s.heap.objs.size f cdv))):cX (cxOf CX0 P w K mg base ["thing"] "need_picture" (defScope eU) f cdv A outer s H E).nox (defBody eU) qX:=by
 exact (aW (gU (mV (sZ (bV fL hr (by decide) (aj (dv 0) aA)))) (aW Uq) dW))
theorem Ls {f:Addr} {fd:FuncData} (Fn:Fun K "need_picture" "need_picture" eU f fd) (hmg:mg "need_picture" =some (.ref f)) (hb:Binds K fd ["thing"] []) (T:Txt K mg) (fL:aZ P w K mg base 4 "is_picture" 1 dD):aZ P w K mg base 5 "need_picture" 1 eN:=
 cU (k:=4) (g:=qX) Fn hmg hb Li rfl rfl λ cdv A outer s H E hr=>Lr T fL hr
theorem abq {f:Addr} {cdv:Value} {A:Around} {outer:List PySem.Env} {s:Shared} {H:Hp} {E:XK} (T:Txt K mg) (dM:aZ P w K mg base 5 "need_picture" 1 eN) (hr:Room 5 (A.deeper (envOfC "size_of" (defScope jT) s.heap.objs.size f cdv))):cX (cxOf CX0 P w K mg base ["picture"] "size_of" (defScope jT) f cdv A outer s H E).nox (defBody jT) Fe:=by
 exact (aM (Ag (bV dM hr (by decide) (aj (dv 0) aA))) (aW (bK (eZ (aj (bA fj rfl T.fH PySem.boot_len (aj (bY (dv 0) aU) aA)) (aj (bA fj rfl T.fH PySem.boot_len (aj (dv 0) aA)) aA))))))
theorem abr {f:Addr} {fd:FuncData} (Fn:Fun K "size_of" "size_of" jT f fd) (hmg:mg "size_of" =some (.ref f)) (hb:Binds K fd ["picture"] []) (T:Txt K mg) (dM:aZ P w K mg base 5 "need_picture" 1 eN):aZ P w K mg base 6 "size_of" 1 f9:=
 cU (k:=5) (g:=Fe) Fn hmg hb abf rfl rfl λ cdv A outer s H E hr=>abq T dM hr
theorem aea {f:Addr} {cdv:Value} {A:Around} {outer:List PySem.Env} {s:Shared} {H:Hp} {E:XK} (T:Txt K mg) (dN:aZ P w K mg base 6 "size_of" 1 f9) (hr:Room 6 (A.deeper (envOfC "turned" (defScope lR) s.heap.objs.size f cdv))):cX (cxOf CX0 P w K mg base ["picture","wide","high"] "turned" (defScope lR) f cdv A outer s H E).nox (defBody lR) JK:=by
 exact (aM (Ny 1 2 rfl Ru.nd (bV dN hr (by decide) (aj (dv 0) aA))) (aW (bK (jZ lN rfl T.gO boot_tuple (aj (cD ["x"] [2,0] rfl (by kernel_rfl) (by kernel_rfl) (iM rfl T.gb (aj (dv 1) aA)) (bx (by decide)) (λ Z Z Z Z nd=>bJ 0 nd) (λ Z Z Z Z=>cB) (λ Z Z Z Z=>(jZ lN rfl T.gO boot_tuple (aj (cD ["y"] [2,0] rfl (by kernel_rfl) (by kernel_rfl) (iM rfl T.gb (aj (dv 1) aA)) (bx (by decide)) (λ Z Z Z Z nd=>bJ 0 nd) (λ Z Z Z Z=>cB) (λ Z Z Z Z=>(bY (bY (dv 1) (dv 0)) (dv 2)))) aA)))) aA)))))
theorem aeb {f:Addr} {fd:FuncData} (Fn:Fun K "turned" "turned" lR f fd) (hmg:mg "turned" =some (.ref f)) (hb:Binds K fd ["picture"] []) (T:Txt K mg) (dN:aZ P w K mg base 6 "size_of" 1 f9):aZ P w K mg base 7 "turned" 1 qY:=
 cU (k:=6) (g:=JK) Fn hmg hb Ru rfl rfl λ cdv A outer s H E hr=>aea T dN hr
theorem aec {f:Addr} {cdv:Value} {A:Around} {outer:List PySem.Env} {s:Shared} {H:Hp} {E:XK} (T:Txt K mg) (nF:aZ P w K mg base 1 "gaps" 1 oJ) (dN:aZ P w K mg base 6 "size_of" 1 f9) (xG:aZ P w K mg base 7 "turned" 1 qY) (hr:Room 7 (A.deeper (envOfC "worths" (defScope lU) s.heap.objs.size f cdv))):cX (cxOf CX0 P w K mg base ["picture","wide","high","across","down"] "worths" (defScope lU) f cdv A outer s H E).nox (defBody lU) JL:=by
 exact (aM (Ny 1 2 rfl yK.nd (bV dN hr (by decide) (aj (dv 0) aA))) (aM (bU 3 yK.nd (cD ["row"] [] rfl (by kernel_rfl) (by kernel_rfl) (dO (dv 0)) (bx (by decide)) (λ Z Z Z Z nd=>bJ 0 nd) (λ Z Z Z Z=>cB) (λ Z Z Z Z=>(bV nF hr (by decide) (aj (dv 0) aA))))) (aM (bU 4 yK.nd (cD ["column"] [] rfl (by kernel_rfl) (by kernel_rfl) (dO (bV xG hr (by decide) (aj (dv 0) aA))) (bx (by decide)) (λ Z Z Z Z nd=>bJ 0 nd) (λ Z Z Z Z=>cB) (λ Z Z Z Z=>(bV nF hr (by decide) (aj (dv 0) aA))))) (aW (bK (jZ lN rfl T.gO boot_tuple (aj (cD ["y"] [3,4,1] rfl (by kernel_rfl) (by kernel_rfl) (iM rfl T.gb (aj (dv 2) aA)) (bx (by decide)) (λ Z Z Z Z nd=>bJ 0 nd) (λ Z Z Z Z=>cB) (λ Z Z Z Z=>(jZ lN rfl T.gO boot_tuple (aj (cD ["x"] [1,2,0] rfl (by kernel_rfl) (by kernel_rfl) (iM rfl T.gb (aj (dv 3) aA)) (bx (by decide)) (λ Z Z Z Z nd=>bJ 0 nd) (λ Z Z Z Z=>cB) (λ Z Z Z Z=>(aX cC (bY (bY (dv 1) (dv 3)) (dv 0)) (bY (bY (dv 2) (dv 0)) (dv 3))))) aA)))) aA)))))))
theorem aed {f:Addr} {fd:FuncData} (Fn:Fun K "worths" "worths" lU f fd) (hmg:mg "worths" =some (.ref f)) (hb:Binds K fd ["picture"] []) (T:Txt K mg) (nF:aZ P w K mg base 1 "gaps" 1 oJ) (dN:aZ P w K mg base 6 "size_of" 1 f9) (xG:aZ P w K mg base 7 "turned" 1 qY):aZ P w K mg base 8 "worths" 1 qZ:=
 cU (k:=7) (g:=JL) Fn hmg hb yK rfl rfl λ cdv A outer s H E hr=>aec T nF dN xG hr
theorem af0 {f:Addr} {cdv:Value} {A:Around} {outer:List PySem.Env} {s:Shared} {H:Hp} {E:XK} (T:Txt K mg) (nG:aZ P w K mg base 2 "join_fares" 2 kO) (xH:aZ P w K mg base 8 "worths" 1 qZ) (hr:Room 8 (A.deeper (envOfC "fares" (defScope nQ) s.heap.objs.size f cdv))):cX (cxOf CX0 P w K mg base ["picture","manner"] "fares" (defScope nQ) f cdv A outer s H E).nox (defBody nQ) Oj:=by
 exact (aM (gU (dg (yG (gC hr)) (dv 1) nZ) (aW (bK (cD ["row"] [] rfl (by kernel_rfl) (by kernel_rfl) (dO (bV xH hr (by decide) (aj (dv 0) aA))) (bx (by decide)) (λ Z Z Z Z nd=>bJ 0 nd) (λ Z Z Z Z=>cB) (λ Z Z Z Z=>(cD ["worth"] [] rfl (by kernel_rfl) (by kernel_rfl) (dO (dv 0)) (bx (by decide)) (λ Z Z Z Z nd=>bJ 0 nd) (λ Z Z Z Z=>cB) (λ Z Z Z Z=>(eZ (aj (dv 0) (aj (dv 0) (aj (dv 0) aA)))))))))) dW) (aW (bK (cD ["y"] [0] rfl (by kernel_rfl) (by kernel_rfl) (iM rfl T.gb (aj (bA fj rfl T.fH PySem.boot_len (aj (dv 0) aA)) aA)) (bx (by decide)) (λ Z Z Z Z nd=>bJ 0 nd) (λ Z Z Z Z=>cB) (λ Z Z Z Z=>(bV nG hr (by decide) (aj (dv 1) (aj (dv 0) aA))))))))
theorem af2 {f:Addr} {fd:FuncData} (Fn:Fun K "fares" "fares" nQ f fd) (hmg:mg "fares" =some (.ref f)) (hb:Binds K fd ["picture","manner"] []) (T:Txt K mg) (nG:aZ P w K mg base 2 "join_fares" 2 kO) (xH:aZ P w K mg base 8 "worths" 1 qZ):aZ P w K mg base 9 "fares" 2 jO:=
 cU (k:=8) (g:=Oj) Fn hmg hb afZ rfl rfl λ cdv A outer s H E hr=>af0 T nG xH hr
theorem O9 {f:Addr} {cdv:Value} {A:Around} {outer:List PySem.Env} {s:Shared} {H:Hp} {E:XK} (T:Txt K mg) (fL:aZ P w K mg base 4 "is_picture" 1 dD) (dN:aZ P w K mg base 6 "size_of" 1 f9) (hr:Room 6 (A.deeper (envOfC "is_pictures" (defScope fV) s.heap.objs.size f cdv))):cX (cxOf CX0 P w K mg base ["thing"] "is_pictures" (defScope fV) f cdv A outer s H E).nox (defBody fV) ud:=by
 exact (aM (gU (DW.dt (HB (mV (sZ (vU (ans:=Bv) T.FW (dv 0) rfl T.dJ boot_isinstance rfl T.xq boot_list))) (HB (mV (Vm (dv 0))) (Eb (mV (sZ (bA (wB rfl) rfl T.qD boot_all (aj (cD ["part"] [] rfl (by kernel_rfl) (by kernel_rfl) (dO (dv 0)) (bx (by decide)) (λ Z Z Z Z nd=>bJ 0 nd) (λ Z Z Z Z=>cB) (λ Z Z Z Z=>(bV fL hr (by decide) (aj (dv 0) aA)))) aA)))))))) (aW (bK pU)) dW) (aW (bK (bA (wB rfl) rfl T.qD boot_all (aj (cD ["part"] [0] rfl (by kernel_rfl) (by kernel_rfl) (dO (dv 0)) (bx (by decide)) (λ Z Z Z Z nd=>bJ 0 nd) (λ Z Z Z Z=>cB) (λ Z Z Z Z=>(Kp (yG (gC hr)) (bV dN hr (by decide) (aj (dv 0) aA)) (bV dN hr (by decide) (aj (bY (dv 1) aU) aA))))) aA)))))
theorem Pb {f:Addr} {fd:FuncData} (Fn:Fun K "is_pictures" "is_pictures" fV f fd) (hmg:mg "is_pictures" =some (.ref f)) (hb:Binds K fd ["thing"] []) (T:Txt K mg) (fL:aZ P w K mg base 4 "is_picture" 1 dD) (dN:aZ P w K mg base 6 "size_of" 1 f9):aZ P w K mg base 7 "is_pictures" 1 cW:=
 cU (k:=6) (g:=ud) Fn hmg hb OJ rfl rfl λ cdv A outer s H E hr=>O9 T fL dN hr
theorem abt {f:Addr} {cdv:Value} {A:Around} {outer:List PySem.Env} {s:Shared} {H:Hp} {E:XK} (T:Txt K mg)  (hr:Room 0 (A.deeper (envOfC "fare_of" (defScope jU) s.heap.objs.size f cdv))):cX (cxOf CX0 P w K mg base ["row","above","place"] "fare_of" (defScope jU) f cdv A outer s H E).nox (defBody jU) Fg:=by
 exact (aW (bK (bY (bY (dv 0) (dv 2)) (aX cC (aX dX (dv 1) (dv 2)) aU))))
theorem abu {f:Addr} {fd:FuncData} (Fn:Fun K "fare_of" "fare_of" jU f fd) (hmg:mg "fare_of" =some (.ref f)) (hb:Binds K fd ["row","above","place"] []) (T:Txt K mg)  :aZ P w K mg base 1 "fare_of" 3 iR:=
 cU (k:=0) (g:=Fg) Fn hmg hb abg rfl rfl λ cdv A outer s H E hr=>abt T  hr
theorem ahW {f:Addr} {cdv:Value} {A:Around} {outer:List PySem.Env} {s:Shared} {H:Hp} {E:XK} (T:Txt K mg)  (hr:Room 0 (A.deeper (envOfC "near" (defScope qz) s.heap.objs.size f cdv))):cX (cxOf CX0 P w K mg base ["place","wide"] "near" (defScope qz) f cdv A outer s H E).nox (defBody qz) Vs:=by
 exact (aW (bK (afD rfl rfl T.xq rfl T.gb (aj (bA (Ak rfl) rfl T.sY boot_max (aj (aX dX (dv 0) aU) (aj aU aA))) (aj (bA (Ej rfl) rfl T.vN boot_min (aj (aX cC (dv 0) aU) (aj (dv 1) aA))) aA)))))
theorem ahX {f:Addr} {fd:FuncData} (Fn:Fun K "near" "near" qz f fd) (hmg:mg "near" =some (.ref f)) (hb:Binds K fd ["place","wide"] []) (T:Txt K mg)  :aZ P w K mg base 1 "near" 2 Aq:=
 cU (k:=0) (g:=Vs) Fn hmg hb ahT rfl rfl λ cdv A outer s H E hr=>ahW T  hr
theorem aee {f:Addr} {cdv:Value} {A:Around} {outer:List PySem.Env} {s:Shared} {H:Hp} {E:XK} (T:Txt K mg) (jA:aZ P w K mg base 1 "fare_of" 3 iR) (FZ:aZ P w K mg base 1 "near" 2 Aq) (hr:Room 1 (A.deeper (envOfC "onward" (defScope lV) s.heap.objs.size f cdv))):cX (cxOf CX0 P w K mg base ["beneath","row","x","told","place","fare"] "onward" (defScope lV) f cdv A outer s H E).nox (defBody lV) JM:=by
 exact (aM (Ah 3 tR.nd aA) (aM (oA PassesOwn.never rfl (dO (bV FZ hr (by decide) (aj (dv 2) (aj (bA fj rfl T.fH PySem.boot_len (aj (dv 0) aA)) aA)))) (pC 4 tR.nd) (aM (bU 5 tR.nd (bV jA hr (by decide) (aj (dv 1) (aj (dv 2) (aj (dv 4) aA))))) (aW (Z4 3 tR.nd (cD ["less","cost","rest"] [5] rfl (by kernel_rfl) (by kernel_rfl) (dO (bY (dv 0) (dv 4))) (lF (cF (bx (by decide)) (cF (bx (by decide)) (cF (bx (by decide)) lE)))) (λ Z Z Z Z nd=>tE rfl (dj (bJ 0 nd) (dj (bJ 1 nd) (dj (bJ 2 nd) pG)))) (λ Z Z Z Z=>cB) (λ Z Z Z Z=>(eZ (aj (dv 0) (aj (aX cC (dv 1) (dv 3)) (aj (dv 2) aA)))))))))) (aW (bK (dv 3)))))
theorem aef {f:Addr} {fd:FuncData} (Fn:Fun K "onward" "onward" lV f fd) (hmg:mg "onward" =some (.ref f)) (hb:Binds K fd ["beneath","row","x"] []) (T:Txt K mg) (jA:aZ P w K mg base 1 "fare_of" 3 iR) (FZ:aZ P w K mg base 1 "near" 2 Aq):aZ P w K mg base 2 "onward" 3 q8:=
 cU (k:=1) (g:=JM) Fn hmg hb tR rfl rfl λ cdv A outer s H E hr=>aee T jA FZ hr
theorem af3 {f:Addr} {cdv:Value} {A:Around} {outer:List PySem.Env} {s:Shared} {H:Hp} {E:XK} (T:Txt K mg) (xJ:aZ P w K mg base 2 "onward" 3 q8) {aG:Nat} {GG:List D->R D} (hG:Ep P w K mg base 1 GG 2 aG H) (hr:Room 2 (A.deeper (envOfC "swept" (defScope nR) s.heap.objs.size f cdv))):cX (cxOf CX0 P w K mg base ["table","marks","start","gather","rows","y","row","x","mark","told","lost"] "swept" (defScope nR) f cdv A outer s H E).nox (defBody nR) (Ol aG GG):=by
 obtain⟨ajH,V8⟩:=T.Bb
 obtain⟨ank,ajI⟩:=T.FJ
 exact (aM (Ah 4 lW.nd aA) (aM (oA PassesOwn.never rfl (ahm rfl T.qF rfl T.gb (aj (bA fj rfl T.fH PySem.boot_len (aj (dv 1) aA)) aA)) (pC 5 lW.nd) (aM (Ah 6 lW.nd aA) (aM (oA PassesOwn.never rfl (Ie rfl T.jw (aj (bY (dv 1) (dv 5)) aA)) (Nz 7 8 rfl lW.nd) (aM (gU (dg (yG (gC hr)) (dv 8) (qQ rfl ajI)) (aW (bU 9 lW.nd (fJ aA))) (aW (gU (mV (Vm (dv 4))) (aW (bU 9 lW.nd (Vd 3 hG hr (by decide) (aj (dv 7) (aj (fJ (aj (eZ (aj aU (aj aU (aj (dv 2) aA)))) aA)) aA))))) (aW (bU 9 lW.nd (Vd 3 hG hr (by decide) (aj (dv 7) (aj (bV xJ hr (by decide) (aj (ajh 4 (El aU)) (aj (bY (dv 0) (aX cC (dv 5) aU)) (aj (dv 7) aA)))) aA)))))))) (aM (bU 10 lW.nd (aaD (dg (yG (gC hr)) (dv 8) (qQ rfl V8)) aU aU)) (aW (Ur 6 (cD ["less","cost","rest"] [10] rfl (by kernel_rfl) (by kernel_rfl) (dO (dv 9)) (lF (cF (bx (by decide)) (cF (bx (by decide)) (cF (bx (by decide)) lE)))) (λ Z Z Z Z nd=>tE rfl (dj (bJ 0 nd) (dj (bJ 1 nd) (dj (bJ 2 nd) pG)))) (λ Z Z Z Z=>cB) (λ Z Z Z Z=>(eZ (aj (aX dX (dv 0) (dv 3)) (aj (dv 1) (aj (dv 2) aA))))))))))) (aW (ahk 4 6 (by decide)))))) (aW (bK (ahj (dv 4))))))
theorem af4 {f:Addr} {fd:FuncData} (Fn:Fun K "swept" "swept" nR f fd) (hmg:mg "swept" =some (.ref f)) (hb:Binds K fd ["table","marks","start","gather"] []) (T:Txt K mg) (xJ:aZ P w K mg base 2 "onward" 3 q8):FnS P w K mg base 3 "swept" 1 3 2 vX:=
 ⟨f,fd,["table","marks","start","gather"],fnS (k:=2) (m:=7) (g:=Ol) Fn lW rfl rfl λ cdv A outer s H E a G hr hG=>af3 T xJ hG hr,hmg,Fn.kp,hb⟩
theorem R4 {f c:Addr} {cdv:Value} {A:Around} {outer:List PySem.Env} {s:Shared} {H:Hp} (T:Txt K mg)  (hr:Room 0 (A.deeper (BP "best_ways.<locals>.first_ones" (defScope jE) f cdv s "many" c))):cX (BR P w K mg base ["x","told","many"] "best_ways.<locals>.first_ones" (defScope jE) f cdv A outer s H "many" c) (defBody jE) Fi:=by
 exact (aW (bK (cD ["less","cost","places"] [0] rfl (by kernel_rfl) (by kernel_rfl) (dO (Es (bA (Vl (Vn hr)) rfl T.rG boot_sorted (aj (dv 1) aA)) wI (wJ (dv 2)))) (lF (cF (bx (by decide)) (cF (bx (by decide)) (cF (bx (by decide)) lE)))) (λ Z Z Z Z nd=>tE rfl (dj (bJ 0 nd) (dj (bJ 1 nd) (dj (bJ 2 nd) pG)))) (λ Z Z Z Z=>cB) (λ Z Z Z Z=>(eZ (aj (dv 0) (aj (dv 1) (aj (aX cC (eZ (aj (dv 3) aA)) (dv 2)) aA))))))))
theorem Pg (T:Txt K mg)  (my:Int) (a c:Addr) (H:Hp) (co:Obj) (uy:Value) (fh:m9 H a "first_ones" "best_ways.<locals>.first_ones" (defArgs jE) (defBody jE) (defScope jE) [("many",c)]) (hc:H c=some (.frz co (.own c))) (hcd:co.data= .cell (some uy)) (hy:RelV (.int my) uy):Ep P w K mg base 1 (fQ my) 2 a H:=
 ajf (k:=0) (m:=0) RT rfl rfl (λ Z Z Z Z Z us hl=>Az hl λ Z Z=>rfl) (λ cdv A outer s H f c hr=>R4 T  hr) fh hc hcd hy
theorem V9 {f cc TP:Addr} {A:Around} {outer:List PySem.Env} {s:Shared} {H:Hp} {E:XK} (T:Txt K mg) (Bc:FnS P w K mg base 3 "swept" 1 3 2 vX)  (hB:sV base mg cc TP) (hT:Tb [(TP,"best_ways.<locals>.first_ones")] H) (hr:Room 3 (A.deeper (envOfC "best_ways" (defScope gq) s.heap.objs.size f (.ref cc)))):cX (cxOf CX0 P w K mg base ["table","marks","many","first_ones"] "best_ways" (defScope gq) f (.ref cc) A outer s H E).nox (defBody gq) yV:=by
 refine bc λ zQ=>?_
 obtain⟨fS,Ve,Rg,Sw,hm,hk,hb⟩:=Bc
 apply zQ;clear zQ
 exact afA (c:=s.heap.objs.size+1) (y:= "many") 3 2 Fz.nd hB hT rfl Sw (hr.mono (by decide)) hm hk hb (Pg T ) (dv 0) (dv 1) (eZ aA) rfl rfl rfl rfl (by decide) (.inl rfl)
theorem Wa {f cc TP:Addr} {fd:FuncData} (Fn:Fun K "best_ways" "best_ways" gq f fd) (hmg:mg "best_ways" =some (.ref f)) (T:Txt K mg) (Bc:FnS P w K mg base 3 "swept" 1 3 2 vX)  (hB:sV base mg cc TP) (hci:Er K mg "best_ways" cc):jh P w K mg base 4 "best_ways" 3 oK fd ["table","marks","many"] [(TP,"best_ways.<locals>.first_ones")]:=by
 refine⟨f,Vc (k:=3) (m:=1) (g:=yV) Fn Fz rfl rfl λ cdv A outer s H E hcd hr hT=>?_,hmg,Fn.kp⟩
 have e:fd.code= .ref cc:=by
  obtain⟨oc,od,kV,doc,pm,an,ant,ct,osl,e1,lk,_⟩:=Fn.ex
  exact hci f oc od fd osl hmg lk
 cases hcd.symm.trans e
 exact V9 T Bc  hB hT hr
theorem Ym {f:Addr} {cdv:Value} {A:Around} {outer:List PySem.Env} {s:Shared} {H:Hp} {E:XK} (T:Txt K mg) (jA:aZ P w K mg base 1 "fare_of" 3 iR) (hr:Room 1 (A.deeper (envOfC "from_top" (defScope jo) s.heap.objs.size f cdv))):cX (cxOf CX0 P w K mg base ["table","rows","told","x","cell","fare"] "from_top" (defScope jo) f cdv A outer s H E).nox (defBody jo) Ca:=by
 exact (aM (Ah 2 oM.nd aA) (aM (oA PassesOwn.never rfl (Ie rfl T.jw (aj (bY (dv 1) aU) aA)) (Nz 3 4 rfl oM.nd) (aM (bU 5 oM.nd (bV jA hr (by decide) (aj (bY (dv 0) aU) (aj (dv 3) (aj (dv 3) aA))))) (aW (Z4 2 oM.nd (cD ["less","cost","rest"] [5] rfl (by kernel_rfl) (by kernel_rfl) (dO (dv 4)) (lF (cF (bx (by decide)) (cF (bx (by decide)) (cF (bx (by decide)) lE)))) (λ Z Z Z Z nd=>tE rfl (dj (bJ 0 nd) (dj (bJ 1 nd) (dj (bJ 2 nd) pG)))) (λ Z Z Z Z=>cB) (λ Z Z Z Z=>(eZ (aj (dv 0) (aj (aX cC (dv 1) (dv 3)) (aj (dv 2) aA)))))))))) (aW (bK (dv 2)))))
theorem Yn {f:Addr} {fd:FuncData} (Fn:Fun K "from_top" "from_top" jo f fd) (hmg:mg "from_top" =some (.ref f)) (hb:Binds K fd ["table","rows"] []) (T:Txt K mg) (jA:aZ P w K mg base 1 "fare_of" 3 iR):aZ P w K mg base 2 "from_top" 2 nP:=
 cU (k:=1) (g:=Ca) Fn hmg hb oM rfl rfl λ cdv A outer s H E hr=>Ym T jA hr
theorem Ph {f:Addr} {cdv:Value} {A:Around} {outer:List PySem.Env} {s:Shared} {H:Hp} {E:XK} (T:Txt K mg) {dF:List (Addr×Str)} {nH:FuncData} (oU:jh P w K mg base 4 "best_ways" 3 oK nH ["table","marks","many"] dF) (oV:Binds K nH ["table","marks","many"] []) (qH:aZ P w K mg base 2 "from_top" 2 nP) (hT:Tb dF H) (hr:Room 4 (A.deeper (envOfC "first_seams" (defScope fW) s.heap.objs.size f cdv))):cX (cxOf CX0 P w K mg base ["table","marks","many"] "first_seams" (defScope fW) f cdv A outer s H E).nox (defBody fW) uf:=by
 exact (aW (bK (Es (bA (Vl (Vn hr)) rfl T.rG boot_sorted (aj (bV qH hr (by decide) (aj (dv 0) (aj (wL oU hT hr (by decide) oV (aj (dv 0) (aj (dv 1) (aj (dv 2) aA)))) aA))) aA)) wI (wJ (dv 2)))))
theorem Pj {f:Addr} {fd:FuncData} (Fn:Fun K "first_seams" "first_seams" fW f fd) (hmg:mg "first_seams" =some (.ref f)) (T:Txt K mg) {dF:List (Addr×Str)} {nH:FuncData} (oU:jh P w K mg base 4 "best_ways" 3 oK nH ["table","marks","many"] dF) (oV:Binds K nH ["table","marks","many"] []) (qH:aZ P w K mg base 2 "from_top" 2 nP):jh P w K mg base 5 "first_seams" 3 lZ fd ["table","marks","many"] dF:=
 ⟨f,Vc (k:=4) (m:=0) (g:=uf) Fn O5 rfl rfl λ cdv A outer s H E Z hr hT=>Ph T oU oV qH hT hr,hmg,Fn.kp⟩
theorem Wb {f:Addr} {cdv:Value} {A:Around} {outer:List PySem.Env} {s:Shared} {H:Hp} {E:XK} (T:Txt K mg) {dF:List (Addr×Str)} {kZ:FuncData} (mC:jh P w K mg base 5 "first_seams" 3 lZ kZ ["table","marks","many"] dF) (mD:Binds K kZ ["table","marks","many"] []) (hT:Tb dF H) (hr:Room 5 (A.deeper (envOfC "least_way" (defScope iG) s.heap.objs.size f cdv))):cX (cxOf CX0 P w K mg base ["table","marks","found","less","cost","seam"] "least_way" (defScope iG) f cdv A outer s H E).nox (defBody iG) yW:=by
 exact (aM (bU 2 xg.nd (wL mC hT hr (by decide) mD (aj (dv 0) (aj (dv 1) (aj aU aA))))) (aM (gU (mV (Vm (dv 2))) (aW (bK mU)) dW) (aM (Z6 3 4 5 rfl xg.nd (bY (dv 2) aU)) (aW (bK (eZ (aj (dv 4) (aj (dv 5) aA))))))))
theorem Wc {f:Addr} {fd:FuncData} (Fn:Fun K "least_way" "least_way" iG f fd) (hmg:mg "least_way" =some (.ref f)) (T:Txt K mg) {dF:List (Addr×Str)} {kZ:FuncData} (mC:jh P w K mg base 5 "first_seams" 3 lZ kZ ["table","marks","many"] dF) (mD:Binds K kZ ["table","marks","many"] []):jh P w K mg base 6 "least_way" 2 iz fd ["table","marks"] dF:=
 ⟨f,Vc (k:=5) (m:=4) (g:=yW) Fn xg rfl rfl λ cdv A outer s H E Z hr hT=>Wb T mC mD hT hr,hmg,Fn.kp⟩
theorem Pk {f:Addr} {cdv:Value} {A:Around} {outer:List PySem.Env} {s:Shared} {H:Hp} {E:XK} (T:Txt K mg) {dF:List (Addr×Str)}  (hT:Tb dF H) (hr:Room 0 (A.deeper (envOfC "need_manner" (defScope fX) s.heap.objs.size f cdv))):cX (cxOf (U9 P w) P w K mg base ["thing"] "need_manner" (defScope fX) f cdv A outer s H E) (defBody fX) ug:=by
 obtain⟨cR,Cp⟩:=T.Cp
 exact (aW (gU (dg (aht (gC hr)) (dv 0) (ag9 (ss:=["worth","joins"]) rfl T.tU) (by rfl)) (aW (Va rfl Cp (aj nZ aA) (λ Z=>⟨_,rfl,by decide⟩))) dW))
theorem Pn {f:Addr} {fd:FuncData} (Fn:Fun K "need_manner" "need_manner" fX f fd) (hmg:mg "need_manner" =some (.ref f)) (T:Txt K mg) {dF:List (Addr×Str)}  :tZ P w K mg base 1 "need_manner" 1 dI fd ["thing"] dF:=
 ⟨f,aji (k:=0) (m:=0) (g:=ug) Fn O6 rfl rfl λ cdv A outer s H E hr hT=>Pk T  hT hr,hmg,Fn.kp⟩
theorem abv {f:Addr} {cdv:Value} {A:Around} {outer:List PySem.Env} {s:Shared} {H:Hp} {E:XK} (T:Txt K mg)  (hr:Room 0 (A.deeper (envOfC "sums_of" (defScope jV) s.heap.objs.size f cdv))):cX (cxOf CX0 P w K mg base ["one","other"] "sums_of" (defScope jV) f cdv A outer s H E).nox (defBody jV) Fj:=by
 exact (aW (bK (cD ["row","beside"] [] rfl (by kernel_rfl) (by kernel_rfl) (N5 rfl T.Cm (aj (dv 0) (aj (dv 1) aA))) (lF (cF (bx (by decide)) (cF (bx (by decide)) lE))) (λ Z Z Z Z nd=>tE rfl (dj (bJ 0 nd) (dj (bJ 1 nd) pG))) (λ Z Z Z Z=>cB) (λ Z Z Z Z=>(cD ["left","right"] [] rfl (by kernel_rfl) (by kernel_rfl) (N5 rfl T.Cm (aj (dv 0) (aj (dv 1) aA))) (lF (cF (bx (by decide)) (cF (bx (by decide)) lE))) (λ Z Z Z Z nd=>tE rfl (dj (bJ 0 nd) (dj (bJ 1 nd) pG))) (λ Z Z Z Z=>cB) (λ Z Z Z Z=>(jZ lN rfl T.gO boot_tuple (aj (cD ["a","b"] [] rfl (by kernel_rfl) (by kernel_rfl) (N5 rfl T.Cm (aj (dv 0) (aj (dv 1) aA))) (lF (cF (bx (by decide)) (cF (bx (by decide)) lE))) (λ Z Z Z Z nd=>tE rfl (dj (bJ 0 nd) (dj (bJ 1 nd) pG))) (λ Z Z Z Z=>cB) (λ Z Z Z Z=>(aX cC (dv 0) (dv 1)))) aA))))))))
theorem abw {f:Addr} {fd:FuncData} (Fn:Fun K "sums_of" "sums_of" jV f fd) (hmg:mg "sums_of" =some (.ref f)) (hb:Binds K fd ["one","other"] []) (T:Txt K mg)  :aZ P w K mg base 1 "sums_of" 2 pO:=
 cU (k:=0) (g:=Fj) Fn hmg hb abh rfl rfl λ cdv A outer s H E hr=>abv T  hr
theorem Pq {f:Addr} {cdv:Value} {A:Around} {outer:List PySem.Env} {s:Shared} {H:Hp} {E:XK} (T:Txt K mg) {dF:List (Addr×Str)} (iJ:aZ P w K mg base 1 "all_free" 1 ji) (lg:aZ P w K mg base 9 "fares" 2 jO) (mF:aZ P w K mg base 7 "is_pictures" 1 cW) {d7:FuncData} (gw:jh P w K mg base 6 "least_way" 2 iz d7 ["table","marks"] dF) (gA:Binds K d7 ["table","marks"] []) {dG:FuncData} (d9:tZ P w K mg base 1 "need_manner" 1 dI dG ["thing"] dF) (eE:Binds K dG ["thing"] []) (tW:aZ P w K mg base 1 "sums_of" 2 pO) (hT:Tb dF H) (hr:Room 9 (A.deeper (envOfC "common_seam" (defScope cH) s.heap.objs.size f cdv))):cX (cxOf (U9 P w) P w K mg base ["pictures","manner","table","picture"] "common_seam" (defScope cH) f cdv A outer s H E) (defBody cH) uh:=by
 obtain⟨cg,xr⟩:=T.xr
 exact (aM (gU (mV (sZ (bV mF hr (by decide) (aj (dv 0) aA)))) (aW (Va rfl xr (aj nZ aA) (λ Z=>⟨_,rfl,by decide⟩))) dW) (aM (Ag (Oh Sel.nil d9 hT hr (by decide) (agK eE) (aj (dv 1) aA))) (aM (bU 2 nU.nd (bV lg hr (by decide) (aj (bY (dv 0) aU) (aj (dv 1) aA)))) (aM (oA PassesOwn.leaving rfl (dO (Es (dv 0) (wJ aU) wI)) (pC 3 nU.nd) (aW (bU 2 nU.nd (bV tW hr (by decide) (aj (dv 2) (aj (bV lg hr (by decide) (aj (dv 3) (aj (dv 1) aA))) aA)))))) (aW (bK (bY (wL gw hT hr (by decide) gA (aj (dv 2) (aj (bV iJ hr (by decide) (aj (bY (dv 0) aU) aA)) aA))) aU)))))))
theorem Pr {f:Addr} {fd:FuncData} (Fn:Fun K "common_seam" "common_seam" cH f fd) (hmg:mg "common_seam" =some (.ref f)) (T:Txt K mg) {dF:List (Addr×Str)} (iJ:aZ P w K mg base 1 "all_free" 1 ji) (lg:aZ P w K mg base 9 "fares" 2 jO) (mF:aZ P w K mg base 7 "is_pictures" 1 cW) {d7:FuncData} (gw:jh P w K mg base 6 "least_way" 2 iz d7 ["table","marks"] dF) (gA:Binds K d7 ["table","marks"] []) {dG:FuncData} (d9:tZ P w K mg base 1 "need_manner" 1 dI dG ["thing"] dF) (eE:Binds K dG ["thing"] []) (tW:aZ P w K mg base 1 "sums_of" 2 pO):tZ P w K mg base 10 "common_seam" 2 cA fd ["pictures","manner"] dF:=
 ⟨f,aji (k:=9) (m:=2) (g:=uh) Fn nU rfl rfl λ cdv A outer s H E hr hT=>Pq T iJ lg mF gw gA d9 eE tW hT hr,hmg,Fn.kp⟩
theorem abx {f:Addr} {cdv:Value} {A:Around} {outer:List PySem.Env} {s:Shared} {H:Hp} {E:XK} (T:Txt K mg) {dF:List (Addr×Str)} {cP:FuncData} (dh:tZ P w K mg base 10 "common_seam" 2 cA cP ["pictures","manner"] dF) (cG:KB K cP ["pictures","manner"] ["manner"] [.inl 0]) (hT:Tb dF H) (hr:Room 10 (A.deeper (envOfC "_law_no" (defScope jW) s.heap.objs.size f cdv))):cX (cxOf CX0 P w K mg base ["_law_pictures","_law_mode","e"] "_law_no" (defScope jW) f cdv A outer s H E).nox (defBody jW) Fl:=by
 obtain⟨ajJ,Yo,Yp⟩:=T.za
 obtain⟨Yq,qG,aby⟩:=T.qG
 obtain⟨R5,nD,Wd⟩:=T.nD
 exact (aM (ajb 2 Lj.nd rfl rfl rfl Yo Yp (λ Z Z=>(aW (Ag (Oi (ks:=["manner"]) (.at 0 .nil) dh hT hr (by decide) cG (aj (dv 0) aA) (HX (dv 1) KJ))))) (λ Z=>(aW (bK (fJ (aj (Vb 2 rfl T.dJ (pe_glob (v:= .ref R5) rfl nD rfl (by decide)) (λ Z z=>z) Wd) (aj (Vb 2 rfl T.dJ (pe_glob (v:= .ref Yq) rfl qG rfl (by decide)) (λ Z z=>z) aby) aA))))))) (aW (bK (fJ aA))))
theorem abz {f:Addr} {fd:FuncData} (Fn:Fun K "_law_no" "_law_no" jW f fd) (hmg:mg "_law_no" =some (.ref f)) (T:Txt K mg) {dF:List (Addr×Str)} {cP:FuncData} (dh:tZ P w K mg base 10 "common_seam" 2 cA cP ["pictures","manner"] dF) (cG:KB K cP ["pictures","manner"] ["manner"] [.inl 0]):jh P w K mg base 11 "_law_no" 2 lJ fd ["_law_pictures","_law_mode"] dF:=
 ⟨f,Vc (k:=10) (m:=1) (g:=Fl) Fn Lj rfl rfl λ cdv A outer s H E Z hr hT=>abx T dh cG hT hr,hmg,Fn.kp⟩
theorem Lw {f:Addr} {cdv:Value} {A:Around} {outer:List PySem.Env} {s:Shared} {H:Hp} {E:XK} (T:Txt K mg) (bZ:aZ P w K mg base 1 "_law_drawn" 3 cJ) (hr:Room 1 (A.deeper (envOfC "_law_picture" (defScope eV) s.heap.objs.size f cdv))):cX (cxOf CX0 P w K mg base ["_law_script","_law_at_here","_law_broad","_law_tall","_law_most","_law_rows","_law_y"] "_law_picture" (defScope eV) f cdv A outer s H E).nox (defBody eV) q9:=by
 exact (aM (agZ 4 5 rfl qC.nd (bY (fJ (aj aU (aj aU (aj aU (aj aU aA))))) (bV bZ hr (by decide) (aj (dv 0) (aj (dv 1) (aj aU aA))))) aA) (aM (oA PassesOwn.never rfl (iM rfl T.gb (aj (dv 3) aA)) (pC 6 qC.nd) (aW (Ur 5 (jZ lN rfl T.gO boot_tuple (aj (cD ["_law_x"] [1,2,4,0,6] rfl (by kernel_rfl) (by kernel_rfl) (iM rfl T.gb (aj (dv 2) aA)) (bx (by decide)) (λ Z Z Z Z nd=>bJ 0 nd) (λ Z Z Z Z=>cB) (λ Z Z Z Z=>(bV bZ hr (by decide) (aj (dv 4) (aj (aX tM (aX tM (aX tM (dv 1) aU) (aX tu (dv 2) (dv 5))) (dv 0)) (aj (dv 3) aA)))))) aA))))) (aW (bK (jZ lN rfl T.gO boot_tuple (aj (dv 5) aA))))))
theorem Ly {f:Addr} {fd:FuncData} (Fn:Fun K "_law_picture" "_law_picture" eV f fd) (hmg:mg "_law_picture" =some (.ref f)) (hb:Binds K fd ["_law_script","_law_at_here","_law_broad","_law_tall"] []) (T:Txt K mg) (bZ:aZ P w K mg base 1 "_law_drawn" 3 cJ):aZ P w K mg base 2 "_law_picture" 4 gZ:=
 cU (k:=1) (g:=q9) Fn hmg hb qC rfl rfl λ cdv A outer s H E hr=>Lw T bZ hr
theorem Wf {f:Addr} {cdv:Value} {A:Around} {outer:List PySem.Env} {s:Shared} {H:Hp} {E:XK} (T:Txt K mg)  (hr:Room 0 (A.deeper (envOfC "_law_ways" (defScope iH) s.heap.objs.size f cdv))):cX (cxOf CX0 P w K mg base ["_law_broad","_law_tall","_law_found","_law_y","_law_more","_law_way"] "_law_ways" (defScope iH) f cdv A outer s H E).nox (defBody iH) yX:=by
 exact (aM (ahb 2 jD.nd ["_law_x"] [] rfl (by kernel_rfl) (by kernel_rfl) (iM rfl T.gb (aj (dv 0) aA)) (bx (by decide)) (λ Z Z Z Z nd=>bJ 0 nd) (λ Z Z Z Z=>cB) (λ Z Z Z Z=>(eZ (aj (dv 0) aA)))) (aM (oA PassesOwn.never rfl (iM rfl T.gb (aj (aX dX (dv 1) aU) aA)) (pC 3 jD.nd) (aM (bU 4 jD.nd (fJ aA)) (aM (oA PassesOwn.never rfl (dO (dv 2)) (pC 5 jD.nd) (aW (bU 4 jD.nd (aX cC (dv 4) (cD ["_law_x"] [0,5] rfl (by kernel_rfl) (by kernel_rfl) (dO (eZ (aj (aX dX (bY (dv 5) (El aU)) aU) (aj (bY (dv 5) (El aU)) (aj (aX cC (bY (dv 5) (El aU)) aU) aA))))) (bx (by decide)) (λ Z Z Z Z nd=>bJ 0 nd) (λ Z Z Z Z=>(Nx (DW.dt (Kr (dg Bm aU (dv 0)) (Hz (dg aaB (dv 0) (dv 1))))))) (λ Z Z Z Z=>(aX cC (dv 2) (eZ (aj (dv 0) aA))))))))) (aW (bU 2 jD.nd (dv 4)))))) (aW (bK (dv 2)))))
theorem Wg {f:Addr} {fd:FuncData} (Fn:Fun K "_law_ways" "_law_ways" iH f fd) (hmg:mg "_law_ways" =some (.ref f)) (hb:Binds K fd ["_law_broad","_law_tall"] []) (T:Txt K mg)  :aZ P w K mg base 1 "_law_ways" 2 mK:=
 cU (k:=0) (g:=yX) Fn hmg hb jD rfl rfl λ cdv A outer s H E hr=>Wf T  hr
theorem abA {f:Addr} {cdv:Value} {A:Around} {outer:List PySem.Env} {s:Shared} {H:Hp} {E:XK} (T:Txt K mg) (iI:aZ P w K mg base 1 "is_whole" 1 jj) (hr:Room 1 (A.deeper (envOfC "is_mark" (defScope jX) s.heap.objs.size f cdv))):cX (cxOf CX0 P w K mg base ["thing"] "is_mark" (defScope jX) f cdv A outer s H E).nox (defBody jX) Fo:=by
 obtain⟨ajG,V7⟩:=T.Ba
 obtain⟨ajH,V8⟩:=T.Bb
 exact (aW (bK (wk (bV iI hr (by decide) (aj (dv 0) aA)) (Af (Jp Bm Bm (qQ rfl V7) (dv 0) (qQ rfl V8))))))
theorem abB {f:Addr} {fd:FuncData} (Fn:Fun K "is_mark" "is_mark" jX f fd) (hmg:mg "is_mark" =some (.ref f)) (hb:Binds K fd ["thing"] []) (T:Txt K mg) (iI:aZ P w K mg base 1 "is_whole" 1 jj):aZ P w K mg base 2 "is_mark" 1 tO:=
 cU (k:=1) (g:=Fo) Fn hmg hb abj rfl rfl λ cdv A outer s H E hr=>abA T iI hr
theorem Lz {f:Addr} {cdv:Value} {A:Around} {outer:List PySem.Env} {s:Shared} {H:Hp} {E:XK} (T:Txt K mg) (tX:aZ P w K mg base 2 "is_mark" 1 tO) (hr:Room 2 (A.deeper (envOfC "is_marks_row" (defScope eX) s.heap.objs.size f cdv))):cX (cxOf CX0 P w K mg base ["thing","wide"] "is_marks_row" (defScope eX) f cdv A outer s H E).nox (defBody eX) rm:=by
 exact (aW (bK (wk (vU (ans:=lG) T.rH (dv 0) rfl T.dJ boot_isinstance rfl T.gO boot_tuple) (wk (Kp (yG (gC hr)) (bA fj rfl T.fH PySem.boot_len (aj (dv 0) aA)) (dv 1)) (Af (bA (wB rfl) rfl T.qD boot_all (aj (cD ["mark"] [] rfl (by kernel_rfl) (by kernel_rfl) (dO (dv 0)) (bx (by decide)) (λ Z Z Z Z nd=>bJ 0 nd) (λ Z Z Z Z=>cB) (λ Z Z Z Z=>(bV tX hr (by decide) (aj (dv 0) aA)))) aA)))))))
theorem LC {f:Addr} {fd:FuncData} (Fn:Fun K "is_marks_row" "is_marks_row" eX f fd) (hmg:mg "is_marks_row" =some (.ref f)) (hb:Binds K fd ["thing","wide"] []) (T:Txt K mg) (tX:aZ P w K mg base 2 "is_mark" 1 tO):aZ P w K mg base 3 "is_marks_row" 2 kW:=
 cU (k:=2) (g:=rm) Fn hmg hb Ln rfl rfl λ cdv A outer s H E hr=>Lz T tX hr
theorem Yr {f:Addr} {cdv:Value} {A:Around} {outer:List PySem.Env} {s:Shared} {H:Hp} {E:XK} (T:Txt K mg) (lq:aZ P w K mg base 3 "is_marks_row" 2 kW) (hr:Room 3 (A.deeper (envOfC "is_marks" (defScope jq) s.heap.objs.size f cdv))):cX (cxOf CX0 P w K mg base ["thing","picture"] "is_marks" (defScope jq) f cdv A outer s H E).nox (defBody jq) Cd:=by
 exact (aM (gU (DW.dt (HB (mV (sZ (vU (ans:=lG) T.rH (dv 0) rfl T.dJ boot_isinstance rfl T.gO boot_tuple))) (Eb (dg (sS (gC hr)) (bA fj rfl T.fH PySem.boot_len (aj (dv 0) aA)) (bA fj rfl T.fH PySem.boot_len (aj (dv 1) aA)))))) (aW (bK pU)) dW) (aW (bK (bA (wB rfl) rfl T.qD boot_all (aj (cD ["row"] [1] rfl (by kernel_rfl) (by kernel_rfl) (dO (dv 0)) (bx (by decide)) (λ Z Z Z Z nd=>bJ 0 nd) (λ Z Z Z Z=>cB) (λ Z Z Z Z=>(bV lq hr (by decide) (aj (dv 0) (aj (bA fj rfl T.fH PySem.boot_len (aj (bY (dv 1) aU) aA)) aA))))) aA)))))
theorem Ys {f:Addr} {fd:FuncData} (Fn:Fun K "is_marks" "is_marks" jq f fd) (hmg:mg "is_marks" =some (.ref f)) (hb:Binds K fd ["thing","picture"] []) (T:Txt K mg) (lq:aZ P w K mg base 3 "is_marks_row" 2 kW):aZ P w K mg base 4 "is_marks" 2 qp:=
 cU (k:=3) (g:=Cd) Fn hmg hb Ye rfl rfl λ cdv A outer s H E hr=>Yr T lq hr
theorem R6 {f:Addr} {cdv:Value} {A:Around} {outer:List PySem.Env} {s:Shared} {H:Hp} {E:XK} (T:Txt K mg) (iJ:aZ P w K mg base 1 "all_free" 1 ji) (qI:aZ P w K mg base 4 "is_marks" 2 qp) (hr:Room 4 (A.deeper (envOfC "full_marks" (defScope gH) s.heap.objs.size f cdv))):cX (cxOf CX0 P w K mg base ["thing","picture"] "full_marks" (defScope gH) f cdv A outer s H E).nox (defBody gH) wV:=by
 exact (aM (gU (dg aaM (dv 0) mU) (aW (bK (bV iJ hr (by decide) (aj (dv 1) aA)))) dW) (aM (gU (mV (sZ (bV qI hr (by decide) (aj (dv 0) (aj (dv 1) aA))))) (aW Uq) dW) (aW (bK (dv 0)))))
theorem R7 {f:Addr} {fd:FuncData} (Fn:Fun K "full_marks" "full_marks" gH f fd) (hmg:mg "full_marks" =some (.ref f)) (hb:Binds K fd ["thing","picture"] []) (T:Txt K mg) (iJ:aZ P w K mg base 1 "all_free" 1 ji) (qI:aZ P w K mg base 4 "is_marks" 2 qp):aZ P w K mg base 5 "full_marks" 2 iT:=
 cU (k:=4) (g:=wV) Fn hmg hb RQ rfl rfl λ cdv A outer s H E hr=>R6 T iJ qI hr
theorem Yt {f:Addr} {cdv:Value} {A:Around} {outer:List PySem.Env} {s:Shared} {H:Hp} {E:XK} (T:Txt K mg) {dF:List (Addr×Str)} (lg:aZ P w K mg base 9 "fares" 2 jO) (nJ:aZ P w K mg base 5 "full_marks" 2 iT) {dG:FuncData} (d9:tZ P w K mg base 1 "need_manner" 1 dI dG ["thing"] dF) (eE:Binds K dG ["thing"] []) (dM:aZ P w K mg base 5 "need_picture" 1 eN) (hT:Tb dF H) (hr:Room 9 (A.deeper (envOfC "laid_out" (defScope jr) s.heap.objs.size f cdv))):cX (cxOf CX0 P w K mg base ["picture","manner","marks","marked"] "laid_out" (defScope jr) f cdv A outer s H E).nox (defBody jr) Ce:=by
 exact (aM (Ag (bV dM hr (by decide) (aj (dv 0) aA))) (aM (Ag (Oh Sel.nil d9 hT hr (by decide) (agK eE) (aj (dv 1) aA))) (aM (bU 3 Jc.nd (bV nJ hr (by decide) (aj (dv 2) (aj (dv 0) aA)))) (aW (bK (eZ (aj (bV lg hr (by decide) (aj (dv 0) (aj (dv 1) aA))) (aj (dv 3) aA))))))))
theorem Yu {f:Addr} {fd:FuncData} (Fn:Fun K "laid_out" "laid_out" jr f fd) (hmg:mg "laid_out" =some (.ref f)) (T:Txt K mg) {dF:List (Addr×Str)} (lg:aZ P w K mg base 9 "fares" 2 jO) (nJ:aZ P w K mg base 5 "full_marks" 2 iT) {dG:FuncData} (d9:tZ P w K mg base 1 "need_manner" 1 dI dG ["thing"] dF) (eE:Binds K dG ["thing"] []) (dM:aZ P w K mg base 5 "need_picture" 1 eN):jh P w K mg base 10 "laid_out" 3 qu fd ["picture","manner","marks"] dF:=
 ⟨f,Vc (k:=9) (m:=1) (g:=Ce) Fn Jc rfl rfl λ cdv A outer s H E Z hr hT=>Yt T lg nJ d9 eE dM hT hr,hmg,Fn.kp⟩
theorem R8 {f:Addr} {cdv:Value} {A:Around} {outer:List PySem.Env} {s:Shared} {H:Hp} {E:XK} (T:Txt K mg) {dF:List (Addr×Str)} {oW:FuncData} (qJ:jh P w K mg base 10 "laid_out" 3 qu oW ["picture","manner","marks"] dF) (qK:Binds K oW ["picture","manner","marks"] []) {d7:FuncData} (gw:jh P w K mg base 6 "least_way" 2 iz d7 ["table","marks"] dF) (gA:Binds K d7 ["table","marks"] []) (hT:Tb dF H) (hr:Room 10 (A.deeper (envOfC "least_seam" (defScope cQ) s.heap.objs.size f cdv))):cX (cxOf CX0 P w K mg base ["picture","manner","marks","table","marked","found"] "least_seam" (defScope cQ) f cdv A outer s H E).nox (defBody cQ) wW:=by
 exact (aM (Ny 3 4 rfl um.nd (wL qJ hT hr (by decide) qK (aj (dv 0) (aj (dv 1) (aj (dv 2) aA))))) (aM (bU 5 um.nd (wL gw hT hr (by decide) gA (aj (dv 3) (aj (dv 4) aA)))) (aM (gU (dg aaM (dv 5) mU) (aW (bK mU)) dW) (aW (bK (bY (dv 5) aU))))))
theorem R9 {f:Addr} {fd:FuncData} (Fn:Fun K "least_seam" "least_seam" cQ f fd) (hmg:mg "least_seam" =some (.ref f)) (T:Txt K mg) {dF:List (Addr×Str)} {oW:FuncData} (qJ:jh P w K mg base 10 "laid_out" 3 qu oW ["picture","manner","marks"] dF) (qK:Binds K oW ["picture","manner","marks"] []) {d7:FuncData} (gw:jh P w K mg base 6 "least_way" 2 iz d7 ["table","marks"] dF) (gA:Binds K d7 ["table","marks"] []):jh P w K mg base 11 "least_seam" 3 kY fd ["picture","manner","marks"] dF:=
 ⟨f,Vc (k:=10) (m:=3) (g:=wW) Fn um rfl rfl λ cdv A outer s H E Z hr hT=>R8 T qJ qK gw gA hT hr,hmg,Fn.kp⟩
theorem ajK {f:Addr} {cdv:Value} {A:Around} {outer:List PySem.Env} {s:Shared} {H:Hp} {E:XK} (T:Txt K mg) {dF:List (Addr×Str)} (oX:aZ P w K mg base 3 "_law_cost" 3 kh) (bZ:aZ P w K mg base 1 "_law_drawn" 3 cJ) (mH:aZ P w K mg base 2 "_law_manner" 2 jN) {qL:FuncData} (pQ:jh P w K mg base 11 "_law_no" 2 lJ qL ["_law_pictures","_law_mode"] dF) (pR:Binds K qL ["_law_pictures","_law_mode"] []) (lu:aZ P w K mg base 2 "_law_picture" 4 gZ) (oY:aZ P w K mg base 1 "_law_ways" 2 mK) {cP:FuncData} (dh:tZ P w K mg base 10 "common_seam" 2 cA cP ["pictures","manner"] dF) {jd:FuncData} (lA:jh P w K mg base 11 "least_seam" 3 kY jd ["picture","manner","marks"] dF) {gj gJ:Tok} (gK:KB K cP ["pictures","manner"] [] [.inr (.str "worth" gj)]) (cG:KB K cP ["pictures","manner"] ["manner"] [.inl 0]) (ig:KB K jd ["picture","manner","marks"] [] [.inr (.str "worth" gJ),.inr .none]) (iu:KB K jd ["picture","manner","marks"] ["manner"] [.inl 0,.inr .none]) (hT:Tb dF H) (hr:Room 11 (A.deeper (envOfC "law" (defScope o9) s.heap.objs.size f cdv))):cX (cxOf CX0 P w K mg base ["_law_script","_law_broad","_law_tall","_law_mode","_law_pictures","_law_kept","_law_best","_law_way","_law_here","_law_first","_law_bad","_law_odd"] "law" (defScope o9) f cdv A outer s H E).nox (defBody o9) aa0:=by
 exact (aM (Z6 1 2 3 rfl mq.nd (eZ (aj (aX cC aU (bV bZ hr (by decide) (aj (dv 0) (aj aU (aj aU aA))))) (aj (aX cC aU (bV bZ hr (by decide) (aj (dv 0) (aj aU (aj aU aA))))) (aj (bV mH hr (by decide) (aj (dv 0) (aj aU aA))) aA))))) (aM (bU 4 mq.nd (cD ["_law_k"] [1,0,2] rfl (by kernel_rfl) (by kernel_rfl) (iM rfl T.gb (aj (aX cC aU (bV bZ hr (by decide) (aj (dv 0) (aj aU (aj aU aA))))) aA)) (bx (by decide)) (λ Z Z Z Z nd=>bJ 0 nd) (λ Z Z Z Z=>cB) (λ Z Z Z Z=>(bV lu hr (by decide) (aj (dv 2) (aj (aX cC aU (aX Ia aU (dv 0))) (aj (dv 1) (aj (dv 3) aA)))))))) (aM (bU 5 mq.nd (jZ agX rfl T.xq boot_list (aj (dv 4) aA))) (aM (bU 6 mq.nd mU) (aM (oA PassesOwn.never rfl (dO (bV oY hr (by decide) (aj (dv 1) (aj (dv 2) aA)))) (pC 7 mq.nd) (aM (bU 8 mq.nd (eZ (aj (bA (ac8 rfl) rfl T.Iw boot_sum (aj (cD ["_law_picture_here"] [3,7] rfl (by kernel_rfl) (by kernel_rfl) (dO (dv 4)) (bx (by decide)) (λ Z Z Z Z nd=>bJ 0 nd) (λ Z Z Z Z=>cB) (λ Z Z Z Z=>(bV oX hr (by decide) (aj (dv 0) (aj (dv 1) (aj (dv 2) aA)))))) aA)) (aj (dv 7) aA)))) (aW (bU 6 mq.nd (aaD (DW.dt (HB (dg aaM (dv 6) mU) (Eb (dg (ajl (Vn hr)) (dv 8) (dv 6))))) (dv 8) (dv 6)))))) (aM (gU (DW.dt (HB (dg (sS (gC hr)) (Oi (ks:=["manner"]) (.at 0 .nil) dh hT hr (by decide) cG (aj (dv 4) aA) (HX (dv 3) KJ)) (bY (dv 6) aU)) (Eb (dg (sS (gC hr)) (dv 4) (dv 5))))) (aW (bK pU)) dW) (aM (bU 9 mq.nd (bY (dv 4) aU)) (aM (gU (dg (sS (gC hr)) (Oi (ks:=["manner"]) (.at 0 .nil) dh hT hr (by decide) cG (aj (fJ (aj (dv 9) aA)) aA) (HX (dv 3) KJ)) (ahe (ks:=["manner"]) (.at 0 (.non .nil)) lA hT hr (by decide) iu (aj (dv 9) aA) (HX (dv 3) KJ))) (aW (bK pU)) dW) (aM (gU (dg (sS (gC hr)) (Oh (.str _ _ .nil) dh hT hr (by decide) gK (aj (aX ahd (fJ (aj (dv 9) aA)) aU) aA)) (ahf (.str _ _ (.non .nil)) lA hT hr (by decide) ig (aj (dv 9) aA))) (aW (bK pU)) dW) (aM (bU 10 mq.nd (fJ (aj mU (aj (fJ aA) (aj (jZ lN rfl T.gO boot_tuple (aj (dv 4) aA)) (aj (aX cC (dv 4) (fJ (aj mU aA))) (aj (aX cC (dv 4) (fJ (aj (aX cC (dv 9) (UJ (dv 9) wI (wJ aU))) aA))) aA))))))) (aM (bU 10 mq.nd (aX cC (dv 10) (fJ (aj (fJ (aj (dv 9) (aj (jZ lN rfl T.gO boot_tuple (aj (cD ["_law_row"] [] rfl (by kernel_rfl) (by kernel_rfl) (dO (dv 9)) (bx (by decide)) (λ Z Z Z Z nd=>bJ 0 nd) (λ Z Z Z Z=>cB) (λ Z Z Z Z=>(aX cC (dv 0) (eZ (aj aU aA))))) aA)) aA))) (aj (dv 9) aA))))) (aM (gU (dg (sS (gC hr)) (Vo ["_law_thing"] [] rfl (by kernel_rfl) (by kernel_rfl) (dO (dv 10)) (bx (by decide)) (λ Z Z Z Z nd=>bJ 0 nd) hT (λ Z Z Z Z hT=>(Nx (dg (sS (gC hr)) (wL pQ hT hr (by decide) pR (aj (dv 0) (aj nZ aA))) (fJ (aj pU (aj pU aA)))))) (λ Z Z Z Z hT=>(dv 0))) (fJ aA)) (aW (bK pU)) dW) (aM (bU 11 mq.nd (fJ (aj nZ (aj mU (aj aU (aj (eZ (aj nZ aA)) (aj nZ aA))))))) (aW (bK (Kp (yG (gC hr)) (Vo ["_law_mode"] [4] rfl (by kernel_rfl) (by kernel_rfl) (dO (dv 11)) (bx (by decide)) (λ Z Z Z Z nd=>bJ 0 nd) hT (λ Z Z Z Z hT=>(Nx (dg (sS (gC hr)) (wL pQ hT hr (by decide) pR (aj (dv 1) (aj (dv 0) aA))) (fJ (aj pU (aj pU aA)))))) (λ Z Z Z Z hT=>(dv 0))) (fJ aA)))))))))))))))))
theorem ok_law {f:Addr} {fd:FuncData} (Fn:Fun K "law" "law" o9 f fd) (hmg:mg "law" =some (.ref f)) (T:Txt K mg) {dF:List (Addr×Str)} (oX:aZ P w K mg base 3 "_law_cost" 3 kh) (bZ:aZ P w K mg base 1 "_law_drawn" 3 cJ) (mH:aZ P w K mg base 2 "_law_manner" 2 jN) {qL:FuncData} (pQ:jh P w K mg base 11 "_law_no" 2 lJ qL ["_law_pictures","_law_mode"] dF) (pR:Binds K qL ["_law_pictures","_law_mode"] []) (lu:aZ P w K mg base 2 "_law_picture" 4 gZ) (oY:aZ P w K mg base 1 "_law_ways" 2 mK) {cP:FuncData} (dh:tZ P w K mg base 10 "common_seam" 2 cA cP ["pictures","manner"] dF) {jd:FuncData} (lA:jh P w K mg base 11 "least_seam" 3 kY jd ["picture","manner","marks"] dF) {gj gJ:Tok} (gK:KB K cP ["pictures","manner"] [] [.inr (.str "worth" gj)]) (cG:KB K cP ["pictures","manner"] ["manner"] [.inl 0]) (ig:KB K jd ["picture","manner","marks"] [] [.inr (.str "worth" gJ),.inr .none]) (iu:KB K jd ["picture","manner","marks"] ["manner"] [.inl 0,.inr .none]):jh P w K mg base 12 "law" 1 K9 fd ["_law_script"] dF:=
 ⟨f,Vc (k:=11) (m:=11) (g:=aa0) Fn mq rfl rfl λ cdv A outer s H E Z hr hT=>ajK T oX bZ mH pQ pR lu oY dh lA gK cG ig iu hT hr,hmg,Fn.kp⟩
end
theorem all_mk {l:PySem.W.OpenLaw} {w:World} {K:PySem.W.Frag} {h:Heap} {mg:Str->Option Value} {fa Ga zc zf xK uo Cq Wh xM Gb Cr Gd JT xO rJ Ge JV JW Px uq Gf Wi JX Py zj Cu ur zm uw Gg ux Gh rK zp Gi rM Cv xP Cw xQ abC:Addr} (X:K.In h) (G:h.Ns mainGlobals mg) (hfa:mg "law" =some (.ref fa))
  {abD abE:Option Addr} {abF:Array (Option Value)} {abG abH abI abJ LK abK:Value}
  {Wj Wk:Option Addr} {Wm:Array (Option Value)} {Wn Wo Wq Wr Gj Ws:Value}
  {Wt Wu:Option Addr} {Wv:Array (Option Value)} {Ww Wx Wz WD Gk WK:Value}
  {Sd Sg:Option Addr} {Sh:Array (Option Value)} {Ss Sv Sx Sy Dv SJ:Value}
  {Pz PB:Option Addr} {PJ:Array (Option Value)} {PL PN PX P0 Bd Qa:Value}
  {Yv Yw:Option Addr} {Yx:Array (Option Value)} {Yy Yz YB YC Jd YD:Value}
  {ahY ahZ:Option Addr} {ah0:Array (Option Value)} {ah1 ah2 ah3 ah4 aau ah5:Value}
  {SM SN:Option Addr} {SQ:Array (Option Value)} {SX S5 S6 S7 Dw S8:Value}
  {abL abM:Option Addr} {abN:Array (Option Value)} {abO abP abQ abR LQ abS:Value}
  {YF YG:Option Addr} {YH:Array (Option Value)} {YJ YK YL YM Je YQ:Value}
  {abT abU:Option Addr} {abV:Array (Option Value)} {abW abX abY abZ LR ab0:Value}
  {aeg aeh:Option Addr} {aei:Array (Option Value)} {aej aek ael aem Rv aen:Value}
  {S9 Tc:Option Addr} {Td:Array (Option Value)} {Te Tf Tg Ti Dy Tj:Value}
  {Ma Mf:Option Addr} {Mg:Array (Option Value)} {Mh Mi Mj Ml yL Mp:Value}
  {ab1 ab2:Option Addr} {ab3:Array (Option Value)} {ab4 ab5 ab6 ab7 Mq ab8:Value}
  {aeo aep:Option Addr} {aer:Array (Option Value)} {aes aeu aev aew Rw aex:Value}
  {aey aez:Option Addr} {aeA:Array (Option Value)} {aeB aeC aeD aeE Rx aeF:Value}
  {af5 af6:Option Addr} {af7:Array (Option Value)} {af8 af9 aga agb WL agc:Value}
  {Qc Qd:Option Addr} {Qe:Array (Option Value)} {Qf Qg Qh Qi Bf Qj:Value}
  {ab9 acd:Option Addr} {ace:Array (Option Value)} {acf acg ach aci Mr acj:Value}
  {ah6 ah7:Option Addr} {ah8:Array (Option Value)} {ah9 aia aib aic aav aie:Value}
  {aeG aeH:Option Addr} {aeI:Array (Option Value)} {aeJ aeK aeL aeM Ry aeN:Value}
  {agd agf:Option Addr} {agg:Array (Option Value)} {agh agi agj agk WM agl:Value}
  {WQ WR:Option Addr} {WT:Array (Option Value)} {WW WX WY W0 Gm W2:Value}
  {YS YT:Option Addr} {YW:Array (Option Value)} {YX YZ Y0 Y4 Jf Y5:Value}
  {Qk Ql:Option Addr} {Qm:Array (Option Value)} {Qn Qo Qp Qq Bg Qs:Value}
  {W3 W4:Option Addr} {W5:Array (Option Value)} {W6 W7 W8 W9 Gn Xa:Value}
  {Qt Qu:Option Addr} {Qv:Array (Option Value)} {Qw Qx Qy Qz Bh QB:Value}
  {acn aco:Option Addr} {acp:Array (Option Value)} {acq acr acs acu Ms acv:Value}
  {QC rN:Option Addr} {QD:Array (Option Value)} {QF rO rP rQ nW rR:Value}
  {acw acy:Option Addr} {acz:Array (Option Value)} {acA acB acC acD Mt acE:Value}
  {Mu Mv:Option Addr} {Mw:Array (Option Value)} {Mx Mz MF MJ yM MK:Value}
  {Xb Xc:Option Addr} {Xd:Array (Option Value)} {Xe Xf Xg Xh Gp Xi:Value}
  {acF acG:Option Addr} {acH:Array (Option Value)} {acI acJ acK acL MN acM:Value}
  {MP M4:Option Addr} {M5:Array (Option Value)} {M6 M7 M8 M9 yN Nb:Value}
  {Y6 Y7:Option Addr} {Y8:Array (Option Value)} {Y9 Za Zb Zc Jg Zd:Value}
  {Tn Tp:Option Addr} {Tq:Array (Option Value)} {Tr Tt Tv Tw Dz Tz:Value}
  {Ze Zf:Option Addr} {Zg:Array (Option Value)} {Zh Zi Zj Zk Jh Zm:Value}
  {TF uz:Option Addr} {TJ:Array (Option Value)} {TQ uD uE uF pq uG:Value}
  {ajL aeO:Option Addr} {ajM:Array (Option Value)} {ajN aeP aeQ aeR Xj aeS:Value}
  {aif:Tok} (Ba:PySem.W.nsIn K mainGlobals "FREE" =some (some (.int 0 aif)))
  {aii:Tok} (Bb:PySem.W.nsIn K mainGlobals "GONE" =some (some (.int 2 aii)))
  {aij:Tok} (FJ:PySem.W.nsIn K mainGlobals "KEPT" =some (some (.int 1 aij)))
  {Xk:Tok} (oN:PySem.W.nsIn K mainGlobals "MOST_CELL" =some (some (.int 99 Xk)))
  {Xl:Tok} (oO:PySem.W.nsIn K mainGlobals "MOST_LONG" =some (some (.int 20 Xl)))
  {Nf:Addr} {acN:Option Addr} {acO:Nat} {acP:Array (Option Value)} {Xm Xn:Tok} (tU:PySem.W.nsIn K mainGlobals "MANNERS" =some (some (.ref Nf))) (Gq:K.lookup Nf=some ⟨.type "tuple",acN,.seq #[.str "worth" Xm,.str "joins" Xn] acO,acP⟩)
  (sX:PySem.W.nsIn K mainGlobals "abs" =some none)
  (qD:PySem.W.nsIn K mainGlobals "all" =some none)
  (FN:PySem.W.nsIn K mainGlobals "bool" =some none)
  (jw:PySem.W.nsIn K mainGlobals "enumerate" =some none)
  (Lp:PySem.W.nsIn K mainGlobals "int" =some none)
  (dJ:PySem.W.nsIn K mainGlobals "isinstance" =some none)
  (fH:PySem.W.nsIn K mainGlobals "len" =some none)
  (xq:PySem.W.nsIn K mainGlobals "list" =some none)
  (sY:PySem.W.nsIn K mainGlobals "max" =some none)
  (vN:PySem.W.nsIn K mainGlobals "min" =some none)
  (gb:PySem.W.nsIn K mainGlobals "range" =some none)
  (qF:PySem.W.nsIn K mainGlobals "reversed" =some none)
  (rG:PySem.W.nsIn K mainGlobals "sorted" =some none)
  (Iw:PySem.W.nsIn K mainGlobals "sum" =some none)
  (gO:PySem.W.nsIn K mainGlobals "tuple" =some none)
  (Cm:PySem.W.nsIn K mainGlobals "zip" =some none)
  (Lq:∀d:D,PySem.W.kitOne K (.type (mY d)) (.type "int")=some (HN (mY d)))
  (FQ:∀d:D,PySem.W.kitOne K (.type (mY d)) (.type "bool")=some (Bu (mY d)))
  (rH:∀d:D,PySem.W.kitOne K (.type (mY d)) (.type "tuple")=some (lG (mY d)))
  (FW:∀d:D,PySem.W.kitOne K (.type (mY d)) (.type "list")=some (Bv (mY d)))
  {cR:Addr} (jY:PySem.W.nsIn K mainGlobals "NoManner" =some (some (.ref cR)))
  {cg:Addr} (iV:PySem.W.nsIn K mainGlobals "NoPictures" =some (some (.ref cg)))
  {oZ:Addr} (zq:PySem.W.nsIn K mainGlobals "SeamError" =some (some (.ref oZ)))
  (Cy:PySem.W.excIn K cR aft "ValueError.__new__" =true)
  (zu:PySem.W.findIn K (.ref cR) "__getattribute__" =some (some (.builtin "BaseException.__getattribute__"))) (zx:PySem.W.findIn K (.ref cR) "__getattr__" =some none) (zy:(PySem.W.clsIn K cR).isSome=true) (zA:PySem.W.findIn K (.ref cR) "__class__" =some (some (.builtin "object.__class__")))
  (zB:PySem.W.specialIn K (.builtin "object.__class__") "__get__" =some (some (.builtin "getset_descriptor.__get__"))) (zE:PySem.W.takesIn K (.builtin "object.__class__")=some true) (zF:PySem.W.mroIn K cR (.type "object")=some true) (zG:PySem.W.mroIn K cR (.type "BaseException")=some true)
  (lX:PySem.W.exmOne K (.ref cR) (.ref oZ)=some true)
  (mQ:PySem.W.kitOne K (.ref cR) (.ref cR)=some true)
  (lB:PySem.W.kitOne K (.ref cR) (.ref cg)=some false)
  (xR:PySem.W.excIn K cg aft "ValueError.__new__" =true)
  (uH:PySem.W.findIn K (.ref cg) "__getattribute__" =some (some (.builtin "BaseException.__getattribute__"))) (uI:PySem.W.findIn K (.ref cg) "__getattr__" =some none) (uJ:(PySem.W.clsIn K cg).isSome=true) (uK:PySem.W.findIn K (.ref cg) "__class__" =some (some (.builtin "object.__class__")))
  (uL:PySem.W.specialIn K (.builtin "object.__class__") "__get__" =some (some (.builtin "getset_descriptor.__get__"))) (uM:PySem.W.takesIn K (.builtin "object.__class__")=some true) (uN:PySem.W.mroIn K cg (.type "object")=some true) (uO:PySem.W.mroIn K cg (.type "BaseException")=some true)
  (kj:PySem.W.exmOne K (.ref cg) (.ref oZ)=some true)
  (lC:PySem.W.kitOne K (.ref cg) (.ref cR)=some false)
  (jL:PySem.W.kitOne K (.ref cg) (.ref cg)=some true)
  (Gr:PySem.W.nsIn K mainGlobals "_law_at" =some (some (.ref Ga))) (Gs:K.lookup Ga=some ⟨abG,abD,.func (PySem.W.fnOf "_law_at" "_law_at" (defArgs jP) (defBody jP) (defScope jP) .none abH abI abJ abE LK abK),abF⟩) (Gu:PySem.W.codeIn K LK "_law_at" =true) (Gv:PySem.W.keepIn K (.ref Ga)=true)
  (zH:PySem.W.nsIn K mainGlobals "_law_step" =some (some (.ref zc))) (zJ:K.lookup zc=some ⟨Wn,Wj,.func (PySem.W.fnOf "_law_step" "_law_step" (defArgs iB) (defBody iB) (defScope iB) .none Wo Wq Wr Wk Gj Ws),Wm⟩) (zK:PySem.W.codeIn K Gj "_law_step" =true) (zL:PySem.W.keepIn K (.ref zc)=true)
  (zM:PySem.W.nsIn K mainGlobals "_law_cost" =some (some (.ref zf))) (zN:K.lookup zf=some ⟨Ww,Wt,.func (PySem.W.fnOf "_law_cost" "_law_cost" (defArgs iC) (defBody iC) (defScope iC) .none Wx Wz WD Wu Gk WK),Wv⟩) (zO:PySem.W.codeIn K Gk "_law_cost" =true) (zP:PySem.W.keepIn K (.ref zf)=true)
  (xT:PySem.W.nsIn K mainGlobals "_law_drawn" =some (some (.ref xK))) (xU:K.lookup xK=some ⟨Ss,Sd,.func (PySem.W.fnOf "_law_drawn" "_law_drawn" (defArgs gD) (defBody gD) (defScope gD) .none Sv Sx Sy Sg Dv SJ),Sh⟩) (xV:PySem.W.codeIn K Dv "_law_drawn" =true) (xW:PySem.W.keepIn K (.ref xK)=true)
  (uP:PySem.W.nsIn K mainGlobals "_law_manner" =some (some (.ref uo))) (uQ:K.lookup uo=some ⟨PL,Pz,.func (PySem.W.fnOf "_law_manner" "_law_manner" (defArgs fU) (defBody fU) (defScope fU) .none PN PX P0 PB Bd Qa),PJ⟩) (uR:PySem.W.codeIn K Bd "_law_manner" =true) (uT:PySem.W.keepIn K (.ref uo)=true)
  (Cz:PySem.W.nsIn K mainGlobals "all_free" =some (some (.ref Cq))) (CG:K.lookup Cq=some ⟨Yy,Yv,.func (PySem.W.fnOf "all_free" "all_free" (defArgs jk) (defBody jk) (defScope jk) .none Yz YB YC Yw Jd YD),Yx⟩) (CJ:PySem.W.codeIn K Jd "all_free" =true) (CK:PySem.W.keepIn K (.ref Cq)=true)
  (Xo:PySem.W.nsIn K mainGlobals "gaps" =some (some (.ref Wh))) (Xp:K.lookup Wh=some ⟨ah1,ahY,.func (PySem.W.fnOf "gaps" "gaps" (defArgs qy) (defBody qy) (defScope qy) .none ah2 ah3 ah4 ahZ aau ah5),ah0⟩) (Xq:PySem.W.codeIn K aau "gaps" =true) (Xr:PySem.W.keepIn K (.ref Wh)=true)
  (xX:PySem.W.nsIn K mainGlobals "join_fares" =some (some (.ref xM))) (xY:K.lookup xM=some ⟨SX,SM,.func (PySem.W.fnOf "join_fares" "join_fares" (defArgs gF) (defBody gF) (defScope gF) .none S5 S6 S7 SN Dw S8),SQ⟩) (xZ:PySem.W.codeIn K Dw "join_fares" =true) (yc:PySem.W.keepIn K (.ref xM)=true)
  (Gw:PySem.W.nsIn K mainGlobals "is_line" =some (some (.ref Gb))) (Gx:K.lookup Gb=some ⟨abO,abL,.func (PySem.W.fnOf "is_line" "is_line" (defArgs jQ) (defBody jQ) (defScope jQ) .none abP abQ abR abM LQ abS),abN⟩) (Gy:PySem.W.codeIn K LQ "is_line" =true) (Gz:PySem.W.keepIn K (.ref Gb)=true)
  (CN:PySem.W.nsIn K mainGlobals "is_whole" =some (some (.ref Cr))) (CP:K.lookup Cr=some ⟨YJ,YF,.func (PySem.W.fnOf "is_whole" "is_whole" (defArgs jm) (defBody jm) (defScope jm) .none YK YL YM YG Je YQ),YH⟩) (CQ:PySem.W.codeIn K Je "is_whole" =true) (CV:PySem.W.keepIn K (.ref Cr)=true)
  (GC:PySem.W.nsIn K mainGlobals "is_cell" =some (some (.ref Gd))) (GD:K.lookup Gd=some ⟨abW,abT,.func (PySem.W.fnOf "is_cell" "is_cell" (defArgs jR) (defBody jR) (defScope jR) .none abX abY abZ abU LR ab0),abV⟩) (GF:PySem.W.codeIn K LR "is_cell" =true) (GJ:PySem.W.keepIn K (.ref Gd)=true)
  (JZ:PySem.W.nsIn K mainGlobals "is_row" =some (some (.ref JT))) (J0:K.lookup JT=some ⟨aej,aeg,.func (PySem.W.fnOf "is_row" "is_row" (defArgs lQ) (defBody lQ) (defScope lQ) .none aek ael aem aeh Rv aen),aei⟩) (J2:PySem.W.codeIn K Rv "is_row" =true) (J6:PySem.W.keepIn K (.ref JT)=true)
  (yd:PySem.W.nsIn K mainGlobals "is_picture" =some (some (.ref xO))) (yg:K.lookup xO=some ⟨Te,S9,.func (PySem.W.fnOf "is_picture" "is_picture" (defArgs gG) (defBody gG) (defScope gG) .none Tf Tg Ti Tc Dy Tj),Td⟩) (yh:PySem.W.codeIn K Dy "is_picture" =true) (yj:PySem.W.keepIn K (.ref xO)=true)
  (rT:PySem.W.nsIn K mainGlobals "need_picture" =some (some (.ref rJ))) (rW:K.lookup rJ=some ⟨Mh,Ma,.func (PySem.W.fnOf "need_picture" "need_picture" (defArgs eU) (defBody eU) (defScope eU) .none Mi Mj Ml Mf yL Mp),Mg⟩) (rY:PySem.W.codeIn K yL "need_picture" =true) (rZ:PySem.W.keepIn K (.ref rJ)=true)
  (GK:PySem.W.nsIn K mainGlobals "size_of" =some (some (.ref Ge))) (GQ:K.lookup Ge=some ⟨ab4,ab1,.func (PySem.W.fnOf "size_of" "size_of" (defArgs jT) (defBody jT) (defScope jT) .none ab5 ab6 ab7 ab2 Mq ab8),ab3⟩) (GR:PySem.W.codeIn K Mq "size_of" =true) (GX:PySem.W.keepIn K (.ref Ge)=true)
  (J7:PySem.W.nsIn K mainGlobals "turned" =some (some (.ref JV))) (J8:K.lookup JV=some ⟨aes,aeo,.func (PySem.W.fnOf "turned" "turned" (defArgs lR) (defBody lR) (defScope lR) .none aeu aev aew aep Rw aex),aer⟩) (J9:PySem.W.codeIn K Rw "turned" =true) (Ka:PySem.W.keepIn K (.ref JV)=true)
  (Kc:PySem.W.nsIn K mainGlobals "worths" =some (some (.ref JW))) (Kd:K.lookup JW=some ⟨aeB,aey,.func (PySem.W.fnOf "worths" "worths" (defArgs lU) (defBody lU) (defScope lU) .none aeC aeD aeE aez Rx aeF),aeA⟩) (Ke:PySem.W.codeIn K Rx "worths" =true) (Kf:PySem.W.keepIn K (.ref JW)=true)
  (QG:PySem.W.nsIn K mainGlobals "fares" =some (some (.ref Px))) (QH:K.lookup Px=some ⟨af8,af5,.func (PySem.W.fnOf "fares" "fares" (defArgs nQ) (defBody nQ) (defScope nQ) .none af9 aga agb af6 WL agc),af7⟩) (QJ:PySem.W.codeIn K WL "fares" =true) (QK:PySem.W.keepIn K (.ref Px)=true)
  (uU:PySem.W.nsIn K mainGlobals "is_pictures" =some (some (.ref uq))) (uV:K.lookup uq=some ⟨Qf,Qc,.func (PySem.W.fnOf "is_pictures" "is_pictures" (defArgs fV) (defBody fV) (defScope fV) .none Qg Qh Qi Qd Bf Qj),Qe⟩) (uW:PySem.W.codeIn K Bf "is_pictures" =true) (uX:PySem.W.keepIn K (.ref uq)=true)
  (GZ:PySem.W.nsIn K mainGlobals "fare_of" =some (some (.ref Gf))) (G3:K.lookup Gf=some ⟨acf,ab9,.func (PySem.W.fnOf "fare_of" "fare_of" (defArgs jU) (defBody jU) (defScope jU) .none acg ach aci acd Mr acj),ace⟩) (G4:PySem.W.codeIn K Mr "fare_of" =true) (G5:PySem.W.keepIn K (.ref Gf)=true)
  (Xu:PySem.W.nsIn K mainGlobals "near" =some (some (.ref Wi))) (Xv:K.lookup Wi=some ⟨ah9,ah6,.func (PySem.W.fnOf "near" "near" (defArgs qz) (defBody qz) (defScope qz) .none aia aib aic ah7 aav aie),ah8⟩) (Xw:PySem.W.codeIn K aav "near" =true) (Xx:PySem.W.keepIn K (.ref Wi)=true)
  (Kg:PySem.W.nsIn K mainGlobals "onward" =some (some (.ref JX))) (Kh:K.lookup JX=some ⟨aeJ,aeG,.func (PySem.W.fnOf "onward" "onward" (defArgs lV) (defBody lV) (defScope lV) .none aeK aeL aeM aeH Ry aeN),aeI⟩) (Kl:PySem.W.codeIn K Ry "onward" =true) (Km:PySem.W.keepIn K (.ref JX)=true)
  (QL:PySem.W.nsIn K mainGlobals "swept" =some (some (.ref Py))) (QM:K.lookup Py=some ⟨agh,agd,.func (PySem.W.fnOf "swept" "swept" (defArgs nR) (defBody nR) (defScope nR) .none agi agj agk agf WM agl),agg⟩) (QS:PySem.W.codeIn K WM "swept" =true) (QT:PySem.W.keepIn K (.ref Py)=true)
  (zR:PySem.W.nsIn K mainGlobals "best_ways" =some (some (.ref zj))) (zT:K.lookup zj=some ⟨WW,WQ,.func (PySem.W.fnOf "best_ways" "best_ways" (defArgs gq) (defBody gq) (defScope gq) .none WX WY W0 WR Gm W2),WT⟩) (zU:PySem.W.codeIn K Gm "best_ways" =true) (zV:PySem.W.keepIn K (.ref zj)=true)
  (CW:PySem.W.nsIn K mainGlobals "from_top" =some (some (.ref Cu))) (CZ:K.lookup Cu=some ⟨YX,YS,.func (PySem.W.fnOf "from_top" "from_top" (defArgs jo) (defBody jo) (defScope jo) .none YZ Y0 Y4 YT Jf Y5),YW⟩) (Dc:PySem.W.codeIn K Jf "from_top" =true) (Df:PySem.W.keepIn K (.ref Cu)=true)
  (uY:PySem.W.nsIn K mainGlobals "first_seams" =some (some (.ref ur))) (uZ:K.lookup ur=some ⟨Qn,Qk,.func (PySem.W.fnOf "first_seams" "first_seams" (defArgs fW) (defBody fW) (defScope fW) .none Qo Qp Qq Ql Bg Qs),Qm⟩) (u6:PySem.W.codeIn K Bg "first_seams" =true) (u9:PySem.W.keepIn K (.ref ur)=true)
  (zW:PySem.W.nsIn K mainGlobals "least_way" =some (some (.ref zm))) (zX:K.lookup zm=some ⟨W6,W3,.func (PySem.W.fnOf "least_way" "least_way" (defArgs iG) (defBody iG) (defScope iG) .none W7 W8 W9 W4 Gn Xa),W5⟩) (zY:PySem.W.codeIn K Gn "least_way" =true) (zZ:PySem.W.keepIn K (.ref zm)=true)
  (vd:PySem.W.nsIn K mainGlobals "need_manner" =some (some (.ref uw))) (vf:K.lookup uw=some ⟨Qw,Qt,.func (PySem.W.fnOf "need_manner" "need_manner" (defArgs fX) (defBody fX) (defScope fX) .none Qx Qy Qz Qu Bh QB),Qv⟩) (vg:PySem.W.codeIn K Bh "need_manner" =true) (vh:PySem.W.keepIn K (.ref uw)=true)
  (G6:PySem.W.nsIn K mainGlobals "sums_of" =some (some (.ref Gg))) (G7:K.lookup Gg=some ⟨acq,acn,.func (PySem.W.fnOf "sums_of" "sums_of" (defArgs jV) (defBody jV) (defScope jV) .none acr acs acu aco Ms acv),acp⟩) (G8:PySem.W.codeIn K Ms "sums_of" =true) (G9:PySem.W.keepIn K (.ref Gg)=true)
  (vm:PySem.W.nsIn K mainGlobals "common_seam" =some (some (.ref ux))) (vo:K.lookup ux=some ⟨QF,QC,.func (PySem.W.fnOf "common_seam" "common_seam" (defArgs cH) (defBody cH) (defScope cH) .none rO rP rQ rN nW rR),QD⟩) (vp:PySem.W.codeIn K nW "common_seam" =true) (vB:PySem.W.keepIn K (.ref ux)=true)
  (Hf:PySem.W.nsIn K mainGlobals "_law_no" =some (some (.ref Gh))) (Hg:K.lookup Gh=some ⟨acA,acw,.func (PySem.W.fnOf "_law_no" "_law_no" (defArgs jW) (defBody jW) (defScope jW) .none acB acC acD acy Mt acE),acz⟩) (Hh:PySem.W.codeIn K Mt "_law_no" =true) (Hi:PySem.W.keepIn K (.ref Gh)=true)
  (su:PySem.W.nsIn K mainGlobals "_law_picture" =some (some (.ref rK))) (sy:K.lookup rK=some ⟨Mx,Mu,.func (PySem.W.fnOf "_law_picture" "_law_picture" (defArgs eV) (defBody eV) (defScope eV) .none Mz MF MJ Mv yM MK),Mw⟩) (sE:PySem.W.codeIn K yM "_law_picture" =true) (sG:PySem.W.keepIn K (.ref rK)=true)
  (Aa:PySem.W.nsIn K mainGlobals "_law_ways" =some (some (.ref zp))) (Ab:K.lookup zp=some ⟨Xe,Xb,.func (PySem.W.fnOf "_law_ways" "_law_ways" (defArgs iH) (defBody iH) (defScope iH) .none Xf Xg Xh Xc Gp Xi),Xd⟩) (Ac:PySem.W.codeIn K Gp "_law_ways" =true) (Ad:PySem.W.keepIn K (.ref zp)=true)
  (Hj:PySem.W.nsIn K mainGlobals "is_mark" =some (some (.ref Gi))) (Hl:K.lookup Gi=some ⟨acI,acF,.func (PySem.W.fnOf "is_mark" "is_mark" (defArgs jX) (defBody jX) (defScope jX) .none acJ acK acL acG MN acM),acH⟩) (Ho:PySem.W.codeIn K MN "is_mark" =true) (Hq:PySem.W.keepIn K (.ref Gi)=true)
  (sH:PySem.W.nsIn K mainGlobals "is_marks_row" =some (some (.ref rM))) (sI:K.lookup rM=some ⟨M6,MP,.func (PySem.W.fnOf "is_marks_row" "is_marks_row" (defArgs eX) (defBody eX) (defScope eX) .none M7 M8 M9 M4 yN Nb),M5⟩) (sJ:PySem.W.codeIn K yN "is_marks_row" =true) (sO:PySem.W.keepIn K (.ref rM)=true)
  (Dg:PySem.W.nsIn K mainGlobals "is_marks" =some (some (.ref Cv))) (Dh:K.lookup Cv=some ⟨Y9,Y6,.func (PySem.W.fnOf "is_marks" "is_marks" (defArgs jq) (defBody jq) (defScope jq) .none Za Zb Zc Y7 Jg Zd),Y8⟩) (Di:PySem.W.codeIn K Jg "is_marks" =true) (Dj:PySem.W.keepIn K (.ref Cv)=true)
  (yp:PySem.W.nsIn K mainGlobals "full_marks" =some (some (.ref xP))) (yq:K.lookup xP=some ⟨Tr,Tn,.func (PySem.W.fnOf "full_marks" "full_marks" (defArgs gH) (defBody gH) (defScope gH) .none Tt Tv Tw Tp Dz Tz),Tq⟩) (yt:PySem.W.codeIn K Dz "full_marks" =true) (yu:PySem.W.keepIn K (.ref xP)=true)
  (Dk:PySem.W.nsIn K mainGlobals "laid_out" =some (some (.ref Cw))) (Dl:K.lookup Cw=some ⟨Zh,Ze,.func (PySem.W.fnOf "laid_out" "laid_out" (defArgs jr) (defBody jr) (defScope jr) .none Zi Zj Zk Zf Jh Zm),Zg⟩) (Dm:PySem.W.codeIn K Jh "laid_out" =true) (Dn:PySem.W.keepIn K (.ref Cw)=true)
  (yw:PySem.W.nsIn K mainGlobals "least_seam" =some (some (.ref xQ))) (yx:K.lookup xQ=some ⟨TQ,TF,.func (PySem.W.fnOf "least_seam" "least_seam" (defArgs cQ) (defBody cQ) (defScope cQ) .none uD uE uF uz pq uG),TJ⟩) (yC:PySem.W.codeIn K pq "least_seam" =true) (yD:PySem.W.keepIn K (.ref xQ)=true)
  (Ng:PySem.W.nsIn K mainGlobals "law" =some (some (.ref abC))) (acQ:K.lookup abC=some ⟨ajN,ajL,.func (PySem.W.fnOf "law" "law" (defArgs o9) (defBody o9) (defScope o9) .none aeP aeQ aeR aeO Xj aeS),ajM⟩) (acR:PySem.W.codeIn K Xj "law" =true) (acS:PySem.W.keepIn K (.ref abC)=true)
  {gj gJ:Tok}
  (gK:KB K (PySem.W.fnOf "common_seam" "common_seam" (defArgs cH) (defBody cH) (defScope cH) .none rO rP rQ rN nW rR) ["pictures","manner"] [] [.inr (.str "worth" gj)])
  (cG:KB K (PySem.W.fnOf "common_seam" "common_seam" (defArgs cH) (defBody cH) (defScope cH) .none rO rP rQ rN nW rR) ["pictures","manner"] ["manner"] [.inl 0])
  (ig:KB K (PySem.W.fnOf "least_seam" "least_seam" (defArgs cQ) (defBody cQ) (defScope cQ) .none uD uE uF uz pq uG) ["picture","manner","marks"] [] [.inr (.str "worth" gJ),.inr .none])
  (iu:KB K (PySem.W.fnOf "least_seam" "least_seam" (defArgs cQ) (defBody cQ) (defScope cQ) .none uD uE uF uz pq uG) ["picture","manner","marks"] ["manner"] [.inl 0,.inr .none])
  :∃fd:FuncData,(∀(s:Shared) (v:Value),BindsTo s fd ⟨[v],[]⟩ [("_law_script",v)])/\∀(base:Heap) (c TP:Addr),K.In base->base.Ns mainGlobals mg->sV base mg c TP->Er K mg "best_ways" c->FnOk l.prog w K mg base CX0 12 fa fd ["_law_script"] (spT [(TP,"best_ways.<locals>.first_ones")] K 1 K9):=by
 have e:=hfa.symm.trans (PySem.W.mg_of X G Ng)
 cases e
 have Nh:IK K cR:=⟨zu,zx,zy,zA,zB,zE,zF,zG⟩
 have Hr:IK K cg:=⟨uH,uI,uJ,uK,uL,uM,uN,uO⟩
 have za:∀c C',j9 c "SeamError" =true->PySem.W.nsIn K mainGlobals c=some (some (.ref C'))->PySem.W.exmOne K (.ref C') (.ref oZ)=some true:=by
  intro c C' h1 h2
  rcases Ez h1 with rfl |rfl
  ·cases iV.symm.trans h2
   exact kj
  ·cases jY.symm.trans h2
   exact lX
 have qG:∀c C',j9 c c=true->PySem.W.nsIn K mainGlobals c=some (some (.ref C'))->IK K C'/\PySem.W.kitOne K (.ref C') (.ref cR)=some (j9 c "NoManner"):=by
  intro c C' h1 h2
  rcases Ez h1 with rfl |rfl
  ·cases iV.symm.trans h2
   exact⟨Hr,by rw[show j9 "NoPictures" "NoManner" =false from by decide];exact lC⟩
  ·cases jY.symm.trans h2
   exact⟨Nh,by rw[show j9 "NoManner" "NoManner" =true from by decide];exact mQ⟩
 have nD:∀c C',j9 c c=true->PySem.W.nsIn K mainGlobals c=some (some (.ref C'))->IK K C'/\PySem.W.kitOne K (.ref C') (.ref cg)=some (j9 c "NoPictures"):=by
  intro c C' h1 h2
  rcases Ez h1 with rfl |rfl
  ·cases iV.symm.trans h2
   exact⟨Hr,by rw[show j9 "NoPictures" "NoPictures" =true from by decide];exact jL⟩
  ·cases jY.symm.trans h2
   exact⟨Nh,by rw[show j9 "NoManner" "NoPictures" =false from by decide];exact lB⟩
 have T:Txt K mg:=⟨⟨_,PySem.W.mg_of X G Ba⟩,⟨_,PySem.W.mg_of X G Bb⟩,⟨_,PySem.W.mg_of X G FJ⟩,⟨_,PySem.W.mg_of X G oN⟩,⟨_,PySem.W.mg_of X G oO⟩,aha X G tU Gq (show 2<=sizeLine from z0b (by decide) (z0e j5)) (.cons ⟨_,rfl⟩ (.cons ⟨_,rfl⟩ (.nil))),PySem.W.mg_none_of X G sX,PySem.W.mg_none_of X G qD,PySem.W.mg_none_of X G FN,PySem.W.mg_none_of X G jw,PySem.W.mg_none_of X G Lp,PySem.W.mg_none_of X G dJ,PySem.W.mg_none_of X G fH,PySem.W.mg_none_of X G xq,PySem.W.mg_none_of X G sY,PySem.W.mg_none_of X G vN,PySem.W.mg_none_of X G gb,PySem.W.mg_none_of X G qF,PySem.W.mg_none_of X G rG,PySem.W.mg_none_of X G Iw,PySem.W.mg_none_of X G gO,PySem.W.mg_none_of X G Cm,Lq,FQ,rH,FW,⟨cR,jY,PySem.W.mg_of X G jY,Cy⟩,⟨cg,iV,PySem.W.mg_of X G iV,xR⟩,⟨oZ,PySem.W.mg_of X G zq,za⟩,⟨cR,PySem.W.mg_of X G jY,qG⟩,⟨cg,PySem.W.mg_of X G iV,nD⟩⟩
 have Rz:=fun_mk (st:=jP) Gs Gu Gv
 have Ji:=fun_mk (st:=iB) zJ zK zL
 have Jj:=fun_mk (st:=iC) zN zO zP
 have Hs:=fun_mk (st:=gD) xU xV xW
 have DN:=fun_mk (st:=fU) uQ uR uT
 have Ni:=fun_mk (st:=jk) CG CJ CK
 have aeT:=fun_mk (st:=qy) Xp Xq Xr
 have Ht:=fun_mk (st:=gF) xY xZ yc
 have RB:=fun_mk (st:=jQ) Gx Gy Gz
 have Nj:=fun_mk (st:=jm) CP CQ CV
 have RD:=fun_mk (st:=jR) GD GF GJ
 have Xy:=fun_mk (st:=lQ) J0 J2 J6
 have Hu:=fun_mk (st:=gG) yg yh yj
 have Bj:=fun_mk (st:=eU) rW rY rZ
 have RG:=fun_mk (st:=jT) GQ GR GX
 have Xz:=fun_mk (st:=lR) J8 J9 Ka
 have XC:=fun_mk (st:=lU) Kd Ke Kf
 have aaw:=fun_mk (st:=nQ) QH QJ QK
 have DP:=fun_mk (st:=fV) uV uW uX
 have RJ:=fun_mk (st:=jU) G3 G4 G5
 have aeU:=fun_mk (st:=qz) Xv Xw Xx
 have XD:=fun_mk (st:=lV) Kh Kl Km
 have aax:=fun_mk (st:=nR) QM QS QT
 have Jk:=fun_mk (st:=gq) zT zU zV
 have Nk:=fun_mk (st:=jo) CZ Dc Df
 have DQ:=fun_mk (st:=fW) uZ u6 u9
 have Jl:=fun_mk (st:=iG) zX zY zZ
 have DR:=fun_mk (st:=fX) vf vg vh
 have RK:=fun_mk (st:=jV) G7 G8 G9
 have TV:=fun_mk (st:=cH) vo vp vB
 have RL:=fun_mk (st:=jW) Hg Hh Hi
 have Bk:=fun_mk (st:=eV) sy sE sG
 have Jm:=fun_mk (st:=iH) Ab Ac Ad
 have RM:=fun_mk (st:=jX) Hl Ho Hq
 have Bl:=fun_mk (st:=eX) sI sJ sO
 have Nm:=fun_mk (st:=jq) Dh Di Dj
 have Hv:=fun_mk (st:=gH) yq yt yu
 have Np:=fun_mk (st:=jr) Dl Dm Dn
 have XF:=fun_mk (st:=cQ) yx yC yD
 have agR:=fun_mk (st:=o9) acQ acR acS
 have aeV:=Rz.binds (ps:=["_law_picture_here","_law_x","_law_y"]) λ Z Z Z Z Z Z us hl=>Rt hl λ Z Z Z=>rfl
 have Zn:=Ji.binds (ps:=["_law_picture_here","_law_mode","_law_x","_law_y","_law_before"]) λ Z Z Z Z Z Z us hl=>lk5 hl λ Z Z Z Z Z=>rfl
 have Zo:=Jj.binds (ps:=["_law_picture_here","_law_mode","_law_seam"]) λ Z Z Z Z Z Z us hl=>Rt hl λ Z Z Z=>rfl
 have XH:=Hs.binds (ps:=["_law_script","_law_k","_law_many"]) λ Z Z Z Z Z Z us hl=>Rt hl λ Z Z Z=>rfl
 have TX:=DN.binds (ps:=["_law_script","_law_at_here"]) λ Z Z Z Z Z Z us hl=>Az hl λ Z Z=>rfl
 have acT:=Ni.binds (ps:=["picture"]) λ Z Z Z Z Z Z us hl=>w5 hl λ Z=>rfl
 have ajO:=aeT.binds (ps:=["line"]) λ Z Z Z Z Z Z us hl=>w5 hl λ Z=>rfl
 have XJ:=Ht.binds (ps:=["picture","y"]) λ Z Z Z Z Z Z us hl=>Az hl λ Z Z=>rfl
 have aeW:=RB.binds (ps:=["thing"]) λ Z Z Z Z Z Z us hl=>w5 hl λ Z=>rfl
 have acU:=Nj.binds (ps:=["thing"]) λ Z Z Z Z Z Z us hl=>w5 hl λ Z=>rfl
 have aeX:=RD.binds (ps:=["thing"]) λ Z Z Z Z Z Z us hl=>w5 hl λ Z=>rfl
 have agm:=Xy.binds (ps:=["thing"]) λ Z Z Z Z Z Z us hl=>w5 hl λ Z=>rfl
 have XM:=Hu.binds (ps:=["thing"]) λ Z Z Z Z Z Z us hl=>w5 hl λ Z=>rfl
 have QV:=Bj.binds (ps:=["thing"]) λ Z Z Z Z Z Z us hl=>w5 hl λ Z=>rfl
 have aeY:=RG.binds (ps:=["picture"]) λ Z Z Z Z Z Z us hl=>w5 hl λ Z=>rfl
 have agn:=Xz.binds (ps:=["picture"]) λ Z Z Z Z Z Z us hl=>w5 hl λ Z=>rfl
 have ago:=XC.binds (ps:=["picture"]) λ Z Z Z Z Z Z us hl=>w5 hl λ Z=>rfl
 have aik:=aaw.binds (ps:=["picture","manner"]) λ Z Z Z Z Z Z us hl=>Az hl λ Z Z=>rfl
 have TY:=DP.binds (ps:=["thing"]) λ Z Z Z Z Z Z us hl=>w5 hl λ Z=>rfl
 have aeZ:=RJ.binds (ps:=["row","above","place"]) λ Z Z Z Z Z Z us hl=>Rt hl λ Z Z Z=>rfl
 have ajP:=aeU.binds (ps:=["place","wide"]) λ Z Z Z Z Z Z us hl=>Az hl λ Z Z=>rfl
 have agp:=XD.binds (ps:=["beneath","row","x"]) λ Z Z Z Z Z Z us hl=>Rt hl λ Z Z Z=>rfl
 have ail:=aax.binds (ps:=["table","marks","start","gather"]) λ Z Z Z Z Z Z us hl=>lk4 hl λ Z Z Z Z=>rfl
 have oV:=Jk.binds (ps:=["table","marks","many"]) λ Z Z Z Z Z Z us hl=>Rt hl λ Z Z Z=>rfl
 have acV:=Nk.binds (ps:=["table","rows"]) λ Z Z Z Z Z Z us hl=>Az hl λ Z Z=>rfl
 have mD:=DQ.binds (ps:=["table","marks","many"]) λ Z Z Z Z Z Z us hl=>Rt hl λ Z Z Z=>rfl
 have gA:=Jl.binds (ps:=["table","marks"]) λ Z Z Z Z Z Z us hl=>Az hl λ Z Z=>rfl
 have eE:=DR.binds (ps:=["thing"]) λ Z Z Z Z Z Z us hl=>w5 hl λ Z=>rfl
 have ae0:=RK.binds (ps:=["one","other"]) λ Z Z Z Z Z Z us hl=>Az hl λ Z Z=>rfl
 have pR:=RL.binds (ps:=["_law_pictures","_law_mode"]) λ Z Z Z Z Z Z us hl=>Az hl λ Z Z=>rfl
 have QW:=Bk.binds (ps:=["_law_script","_law_at_here","_law_broad","_law_tall"]) λ Z Z Z Z Z Z us hl=>lk4 hl λ Z Z Z Z=>rfl
 have Zq:=Jm.binds (ps:=["_law_broad","_law_tall"]) λ Z Z Z Z Z Z us hl=>Az hl λ Z Z=>rfl
 have ae1:=RM.binds (ps:=["thing"]) λ Z Z Z Z Z Z us hl=>w5 hl λ Z=>rfl
 have QX:=Bl.binds (ps:=["thing","wide"]) λ Z Z Z Z Z Z us hl=>Az hl λ Z Z=>rfl
 have acW:=Nm.binds (ps:=["thing","picture"]) λ Z Z Z Z Z Z us hl=>Az hl λ Z Z=>rfl
 have XQ:=Hv.binds (ps:=["thing","picture"]) λ Z Z Z Z Z Z us hl=>Az hl λ Z Z=>rfl
 have qK:=Np.binds (ps:=["picture","manner","marks"]) λ Z Z Z Z Z Z us hl=>Rt hl λ Z Z Z=>rfl
 have ano:=agR.binds (ps:=["_law_script"]) λ Z Z Z Z Z Z us hl=>w5 hl λ Z=>rfl
 refine⟨PySem.W.fnOf "law" "law" (defArgs o9) (defBody o9) (defScope o9) .none aeP aeQ aeR aeO Xj aeS,λ s v=> .of_eq rfl,λ base cN TP Z Z hB hCI=>?_⟩
 have lM:aZ l.prog w K mg base 1 "_law_at" 3 iQ:=abl Rz (PySem.W.mg_of X G Gr) aeV T
 have oR:aZ l.prog w K mg base 2 "_law_step" 5 iw:=V4 Ji (PySem.W.mg_of X G zH) Zn T lM
 have oX:aZ l.prog w K mg base 3 "_law_cost" 3 kh:=V6 Jj (PySem.W.mg_of X G zM) Zo T oR
 have bZ:aZ l.prog w K mg base 1 "_law_drawn" 3 cJ:=RW Hs (PySem.W.mg_of X G xT) XH T
 have mH:aZ l.prog w K mg base 2 "_law_manner" 2 jN:=O8 DN (PySem.W.mg_of X G uP) TX T bZ
 have iJ:aZ l.prog w K mg base 1 "all_free" 1 ji:=Yh Ni (PySem.W.mg_of X G Cz) acT T
 have nF:aZ l.prog w K mg base 1 "gaps" 1 oJ:=ahV aeT (PySem.W.mg_of X G Xo) ajO T
 have nG:aZ l.prog w K mg base 2 "join_fares" 2 kO:=RZ Ht (PySem.W.mg_of X G xX) XJ T nF
 have jz:aZ l.prog w K mg base 1 "is_line" 1 ju:=abn RB (PySem.W.mg_of X G Gw) aeW T
 have iI:aZ l.prog w K mg base 1 "is_whole" 1 jj:=Yk Nj (PySem.W.mg_of X G CN) acU T
 have tV:aZ l.prog w K mg base 2 "is_cell" 1 pN:=abp RD (PySem.W.mg_of X G GC) aeX T iI
 have xu:aZ l.prog w K mg base 3 "is_row" 1 qW:=ad9 Xy (PySem.W.mg_of X G JZ) agm T tV jz
 have fL:aZ l.prog w K mg base 4 "is_picture" 1 dD:=R3 Hu (PySem.W.mg_of X G yd) XM T jz xu
 have dM:aZ l.prog w K mg base 5 "need_picture" 1 eN:=Ls Bj (PySem.W.mg_of X G rT) QV T fL
 have dN:aZ l.prog w K mg base 6 "size_of" 1 f9:=abr RG (PySem.W.mg_of X G GK) aeY T dM
 have xG:aZ l.prog w K mg base 7 "turned" 1 qY:=aeb Xz (PySem.W.mg_of X G J7) agn T dN
 have xH:aZ l.prog w K mg base 8 "worths" 1 qZ:=aed XC (PySem.W.mg_of X G Kc) ago T nF dN xG
 have lg:aZ l.prog w K mg base 9 "fares" 2 jO:=af2 aaw (PySem.W.mg_of X G QG) aik T nG xH
 have mF:aZ l.prog w K mg base 7 "is_pictures" 1 cW:=Pb DP (PySem.W.mg_of X G uU) TY T fL dN
 have jA:aZ l.prog w K mg base 1 "fare_of" 3 iR:=abu RJ (PySem.W.mg_of X G GZ) aeZ T
 have FZ:aZ l.prog w K mg base 1 "near" 2 Aq:=ahX aeU (PySem.W.mg_of X G Xu) ajP T
 have xJ:aZ l.prog w K mg base 2 "onward" 3 q8:=aef XD (PySem.W.mg_of X G Kg) agp T jA FZ
 have Bc:=af4 (P:=l.prog) (w:=w) (base:=base) aax (PySem.W.mg_of X G QL) ail T xJ
 have oU:=Wa (P:=l.prog) (w:=w) (base:=base) Jk (PySem.W.mg_of X G zR) T Bc  hB hCI
 have qH:aZ l.prog w K mg base 2 "from_top" 2 nP:=Yn Nk (PySem.W.mg_of X G CW) acV T jA
 have mC:=Pj (P:=l.prog) (w:=w) (base:=base) DQ (PySem.W.mg_of X G uY) T oU oV qH
 have gw:=Wc (P:=l.prog) (w:=w) (base:=base) Jl (PySem.W.mg_of X G zW) T mC mD
 have d9:=Pn (P:=l.prog) (w:=w) (base:=base) (dF:=[(TP,"best_ways.<locals>.first_ones")]) DR (PySem.W.mg_of X G vd) T
 have tW:aZ l.prog w K mg base 1 "sums_of" 2 pO:=abw RK (PySem.W.mg_of X G G6) ae0 T
 have dh:=Pr (P:=l.prog) (w:=w) (base:=base) (dF:=[(TP,"best_ways.<locals>.first_ones")]) TV (PySem.W.mg_of X G vm) T iJ lg mF gw gA d9 eE tW
 have pQ:=abz (P:=l.prog) (w:=w) (base:=base) RL (PySem.W.mg_of X G Hf) T dh cG
 have lu:aZ l.prog w K mg base 2 "_law_picture" 4 gZ:=Ly Bk (PySem.W.mg_of X G su) QW T bZ
 have oY:aZ l.prog w K mg base 1 "_law_ways" 2 mK:=Wg Jm (PySem.W.mg_of X G Aa) Zq T
 have tX:aZ l.prog w K mg base 2 "is_mark" 1 tO:=abB RM (PySem.W.mg_of X G Hj) ae1 T iI
 have lq:aZ l.prog w K mg base 3 "is_marks_row" 2 kW:=LC Bl (PySem.W.mg_of X G sH) QX T tX
 have qI:aZ l.prog w K mg base 4 "is_marks" 2 qp:=Ys Nm (PySem.W.mg_of X G Dg) acW T lq
 have nJ:aZ l.prog w K mg base 5 "full_marks" 2 iT:=R7 Hv (PySem.W.mg_of X G yp) XQ T iJ qI
 have qJ:=Yu (P:=l.prog) (w:=w) (base:=base) Np (PySem.W.mg_of X G Dk) T lg nJ d9 eE dM
 have lA:=R9 (P:=l.prog) (w:=w) (base:=base) XF (PySem.W.mg_of X G yw) T qJ qK gw gA
 have alT:=ok_law (P:=l.prog) (w:=w) (base:=base) agR (PySem.W.mg_of X G Ng) T oX bZ mH pQ pR lu oY dh lA gK cG ig iu
 obtain⟨f',ok',hm',_⟩:=alT
 cases (PySem.W.mg_of X G Ng).symm.trans hm'
 exact ok'
end K8
namespace K8
open PySem PySem.Spec L2 Pu
theorem walk {l:PySem.W.OpenLaw} {q:Program} {loose:List Str} {XP:(Str->Option Value)->Heap->Prop} {YP:World->Heap->Prop} {d:DefRec} {K:Params->PySem.W.Frag} (hn:l.most=some 63) (hdf:d.params.defaults=[])
  (hY:∀(w:World) (h:Heap),YP w h->(K w.params).In h) (hnt:∀w:World,PySem.W.noTabs (K w.params)=true) (hrec:∃dy,(PyProof.Rows.recsOf q).find? (λ e:DefRec=>e.name ==("best_ways" :Str))=some dy)
  (F:∀(w:World) (mg:Str->Option Value) (fa:Addr) (h:Heap),(K w.params).In h->h.Ns mainGlobals mg->mg d.name=some (.ref fa)->
   ∃fd:FuncData,(∀(s:Shared) (u:Value),BindsTo s fd ⟨[u],[]⟩ [("_law_script",u)])/\∀(base:Heap) (c T:Addr),(K w.params).In base->base.Ns mainGlobals mg->sV base mg c T->Er (K w.params) mg "best_ways" c->FnOk l.prog w (K w.params) mg base CX0 12 fa fd ["_law_script"] (spT [(T,"best_ways.<locals>.first_ones")] (K w.params) 1 K9)):
  PySem.W.WalkO q loose XP YP l.row.toRowW d [] (λ f vs=>PySem.call f vs):=
 Pu.alL (n:=63) (k:=12) (x:= "_law_script") (y:= "best_ways") (q:= "best_ways.<locals>.first_ones") (FL:=K9) hn (by decide) hdf ⟨rfl,by decide,by decide⟩ hY hnt (by obtain⟨dy,e⟩:=hrec;exact⟨dy,List.mem_of_find?_eq_some e,beq_iff_eq.mp (List.find?_some (p:=λ e:DefRec=>e.name ==("best_ways" :Str)) e)⟩) F afY
end K8
open PySem PySem.W PyProof.Rows
set_option bootstrap.genMatcherCode true
set_option compiler.extract_closed true
set_option maxRecDepth 100000 in
set_option maxHeartbeats 0 in
theorem PySem.Challenge.cw_seamhall_k14_common_holds : PySem.Challenge.rw_seamhall_k14_common.Holds := by
 w_on;o_law;k_head;(case hw=>w_witness2)
 k_fill
 refine K8.walk (l:=PySem.Challenge.rw_seamhall_k14_common) rfl rfl (λ w h Y=>PySem.W.km_in_of Y) ?nt ?rec ?F
 case nt=>intro w;kernel_rfl
 case rec=>exact⟨_,rfl⟩
 case F=>
  intro w mg fa h KX G hmg
  refine' K8.all_mk KX G hmg ?Ba ?Bb ?FJ ?oN ?oO ?tU ?Gq ?sX ?qD ?FN ?jw ?Lp ?dJ ?fH ?xq ?sY ?vN ?gb ?qF ?rG ?Iw ?gO ?Cm ?Lq ?FQ ?rH ?FW ?jY ?iV ?zq ?Cy ?zu ?zx ?zy ?zA ?zB ?zE ?zF ?zG ?lX ?mQ ?lB ?xR ?uH ?uI ?uJ ?uK ?uL ?uM ?uN ?uO ?kj ?lC ?jL ?Gr ?Gs ?Gu ?Gv ?zH ?zJ ?zK ?zL ?zM ?zN ?zO ?zP ?xT ?xU ?xV ?xW ?uP ?uQ ?uR ?uT ?Cz ?CG ?CJ ?CK ?Xo ?Xp ?Xq ?Xr ?xX ?xY ?xZ ?yc ?Gw ?Gx ?Gy ?Gz ?CN ?CP ?CQ ?CV ?GC ?GD ?GF ?GJ ?JZ ?J0 ?J2 ?J6 ?yd ?yg ?yh ?yj ?rT ?rW ?rY ?rZ ?GK ?GQ ?GR ?GX ?J7 ?J8 ?J9 ?Ka ?Kc ?Kd ?Ke ?Kf ?QG ?QH ?QJ ?QK ?uU ?uV ?uW ?uX ?GZ ?G3 ?G4 ?G5 ?Xu ?Xv ?Xw ?Xx ?Kg ?Kh ?Kl ?Km ?QL ?QM ?QS ?QT ?zR ?zT ?zU ?zV ?CW ?CZ ?Dc ?Df ?uY ?uZ ?u6 ?u9 ?zW ?zX ?zY ?zZ ?vd ?vf ?vg ?vh ?G6 ?G7 ?G8 ?G9 ?vm ?vo ?vp ?vB ?Hf ?Hg ?Hh ?Hi ?su ?sy ?sE ?sG ?Aa ?Ab ?Ac ?Ad ?Hj ?Hl ?Ho ?Hq ?sH ?sI ?sJ ?sO ?Dg ?Dh ?Di ?Dj ?yp ?yq ?yt ?yu ?Dk ?Dl ?Dm ?Dn ?yw ?yx ?yC ?yD ?Ng ?acQ ?acR ?acS ?gK ?cG ?ig ?iu
  (case Ba=>k_is)
  (case Bb=>k_is)
  (case FJ=>k_is)
  (case oN=>k_is)
  (case oO=>k_is)
  (case tU=>k_is)
  (case Gq=>k_is)
  (case sX=>k_is)
  (case qD=>k_is)
  (case FN=>k_is)
  (case jw=>k_is)
  (case Lp=>k_is)
  (case dJ=>k_is)
  (case fH=>k_is)
  (case xq=>k_is)
  (case sY=>k_is)
  (case vN=>k_is)
  (case gb=>k_is)
  (case qF=>k_is)
  (case rG=>k_is)
  (case Iw=>k_is)
  (case gO=>k_is)
  (case Cm=>k_is)
  (case Lq=>intro d;cases d;(show PySem.W.kitOne _ (Value.type "NoneType") (Value.type "int")=some false);kit_is;(show PySem.W.kitOne _ (Value.type "bool") (Value.type "int")=some true);kit_is;(show PySem.W.kitOne _ (Value.type "int") (Value.type "int")=some true);kit_is;(show PySem.W.kitOne _ (Value.type "str") (Value.type "int")=some false);kit_is;(show PySem.W.kitOne _ (Value.type "tuple") (Value.type "int")=some false);kit_is;(show PySem.W.kitOne _ (Value.type "list") (Value.type "int")=some false);kit_is)
  (case FQ=>intro d;cases d;(show PySem.W.kitOne _ (Value.type "NoneType") (Value.type "bool")=some false);kit_is;(show PySem.W.kitOne _ (Value.type "bool") (Value.type "bool")=some true);kit_is;(show PySem.W.kitOne _ (Value.type "int") (Value.type "bool")=some false);kit_is;(show PySem.W.kitOne _ (Value.type "str") (Value.type "bool")=some false);kit_is;(show PySem.W.kitOne _ (Value.type "tuple") (Value.type "bool")=some false);kit_is;(show PySem.W.kitOne _ (Value.type "list") (Value.type "bool")=some false);kit_is)
  (case rH=>intro d;cases d;(show PySem.W.kitOne _ (Value.type "NoneType") (Value.type "tuple")=some false);kit_is;(show PySem.W.kitOne _ (Value.type "bool") (Value.type "tuple")=some false);kit_is;(show PySem.W.kitOne _ (Value.type "int") (Value.type "tuple")=some false);kit_is;(show PySem.W.kitOne _ (Value.type "str") (Value.type "tuple")=some false);kit_is;(show PySem.W.kitOne _ (Value.type "tuple") (Value.type "tuple")=some true);kit_is;(show PySem.W.kitOne _ (Value.type "list") (Value.type "tuple")=some false);kit_is)
  (case FW=>intro d;cases d;(show PySem.W.kitOne _ (Value.type "NoneType") (Value.type "list")=some false);kit_is;(show PySem.W.kitOne _ (Value.type "bool") (Value.type "list")=some false);kit_is;(show PySem.W.kitOne _ (Value.type "int") (Value.type "list")=some false);kit_is;(show PySem.W.kitOne _ (Value.type "str") (Value.type "list")=some false);kit_is;(show PySem.W.kitOne _ (Value.type "tuple") (Value.type "list")=some false);kit_is;(show PySem.W.kitOne _ (Value.type "list") (Value.type "list")=some true);kit_is)
  (case jY=>k_is)
  (case iV=>k_is)
  (case zq=>k_is)
  (case Cy=>k_exc)
  (case zu=>first |k_is |kernel_rfl)
  (case zx=>first |k_is |kernel_rfl)
  (case zy=>first |k_is |kernel_rfl)
  (case zA=>first |k_is |kernel_rfl)
  (case zB=>first |k_is |kernel_rfl)
  (case zE=>first |k_is |kernel_rfl)
  (case zF=>first |k_is |kernel_rfl)
  (case zG=>first |k_is |kernel_rfl)
  (case lX=>first |k_is |kernel_rfl)
  (case mQ=>kit_is)
  (case lB=>kit_is)
  (case xR=>k_exc)
  (case uH=>first |k_is |kernel_rfl)
  (case uI=>first |k_is |kernel_rfl)
  (case uJ=>first |k_is |kernel_rfl)
  (case uK=>first |k_is |kernel_rfl)
  (case uL=>first |k_is |kernel_rfl)
  (case uM=>first |k_is |kernel_rfl)
  (case uN=>first |k_is |kernel_rfl)
  (case uO=>first |k_is |kernel_rfl)
  (case kj=>first |k_is |kernel_rfl)
  (case lC=>kit_is)
  (case jL=>kit_is)
  (case Gr=>k_is)
  (case Gs=>k_is)
  (case Gu=>k_is)
  (case Gv=>k_is)
  (case zH=>k_is)
  (case zJ=>k_is)
  (case zK=>k_is)
  (case zL=>k_is)
  (case zM=>k_is)
  (case zN=>k_is)
  (case zO=>k_is)
  (case zP=>k_is)
  (case xT=>k_is)
  (case xU=>k_is)
  (case xV=>k_is)
  (case xW=>k_is)
  (case uP=>k_is)
  (case uQ=>k_is)
  (case uR=>k_is)
  (case uT=>k_is)
  (case Cz=>k_is)
  (case CG=>k_is)
  (case CJ=>k_is)
  (case CK=>k_is)
  (case Xo=>k_is)
  (case Xp=>k_is)
  (case Xq=>k_is)
  (case Xr=>k_is)
  (case xX=>k_is)
  (case xY=>k_is)
  (case xZ=>k_is)
  (case yc=>k_is)
  (case Gw=>k_is)
  (case Gx=>k_is)
  (case Gy=>k_is)
  (case Gz=>k_is)
  (case CN=>k_is)
  (case CP=>k_is)
  (case CQ=>k_is)
  (case CV=>k_is)
  (case GC=>k_is)
  (case GD=>k_is)
  (case GF=>k_is)
  (case GJ=>k_is)
  (case JZ=>k_is)
  (case J0=>k_is)
  (case J2=>k_is)
  (case J6=>k_is)
  (case yd=>k_is)
  (case yg=>k_is)
  (case yh=>k_is)
  (case yj=>k_is)
  (case rT=>k_is)
  (case rW=>k_is)
  (case rY=>k_is)
  (case rZ=>k_is)
  (case GK=>k_is)
  (case GQ=>k_is)
  (case GR=>k_is)
  (case GX=>k_is)
  (case J7=>k_is)
  (case J8=>k_is)
  (case J9=>k_is)
  (case Ka=>k_is)
  (case Kc=>k_is)
  (case Kd=>k_is)
  (case Ke=>k_is)
  (case Kf=>k_is)
  (case QG=>k_is)
  (case QH=>k_is)
  (case QJ=>k_is)
  (case QK=>k_is)
  (case uU=>k_is)
  (case uV=>k_is)
  (case uW=>k_is)
  (case uX=>k_is)
  (case GZ=>k_is)
  (case G3=>k_is)
  (case G4=>k_is)
  (case G5=>k_is)
  (case Xu=>k_is)
  (case Xv=>k_is)
  (case Xw=>k_is)
  (case Xx=>k_is)
  (case Kg=>k_is)
  (case Kh=>k_is)
  (case Kl=>k_is)
  (case Km=>k_is)
  (case QL=>k_is)
  (case QM=>k_is)
  (case QS=>k_is)
  (case QT=>k_is)
  (case zR=>k_is)
  (case zT=>k_is)
  (case zU=>k_is)
  (case zV=>k_is)
  (case CW=>k_is)
  (case CZ=>k_is)
  (case Dc=>k_is)
  (case Df=>k_is)
  (case uY=>k_is)
  (case uZ=>k_is)
  (case u6=>k_is)
  (case u9=>k_is)
  (case zW=>k_is)
  (case zX=>k_is)
  (case zY=>k_is)
  (case zZ=>k_is)
  (case vd=>k_is)
  (case vf=>k_is)
  (case vg=>k_is)
  (case vh=>k_is)
  (case G6=>k_is)
  (case G7=>k_is)
  (case G8=>k_is)
  (case G9=>k_is)
  (case vm=>k_is)
  (case vo=>k_is)
  (case vp=>k_is)
  (case vB=>k_is)
  (case Hf=>k_is)
  (case Hg=>k_is)
  (case Hh=>k_is)
  (case Hi=>k_is)
  (case su=>k_is)
  (case sy=>k_is)
  (case sE=>k_is)
  (case sG=>k_is)
  (case Aa=>k_is)
  (case Ab=>k_is)
  (case Ac=>k_is)
  (case Ad=>k_is)
  (case Hj=>k_is)
  (case Hl=>k_is)
  (case Ho=>k_is)
  (case Hq=>k_is)
  (case sH=>k_is)
  (case sI=>k_is)
  (case sJ=>k_is)
  (case sO=>k_is)
  (case Dg=>k_is)
  (case Dh=>k_is)
  (case Di=>k_is)
  (case Dj=>k_is)
  (case yp=>k_is)
  (case yq=>k_is)
  (case yt=>k_is)
  (case yu=>k_is)
  (case Dk=>k_is)
  (case Dl=>k_is)
  (case Dm=>k_is)
  (case Dn=>k_is)
  (case yw=>k_is)
  (case yx=>k_is)
  (case yC=>k_is)
  (case yD=>k_is)
  (case Ng=>k_is)
  (case acQ=>k_is)
  (case acR=>k_is)
  (case acS=>k_is)
  (case gK=>intro s us ws i hl hw;have h0:us.length=1:=(by simp only[List.length_cons,List.length_nil] at hl;omega);clear hl;obtain⟨u0,us0,rfl,h1⟩:=Pu.BJ h0;clear h0;cases Pu.len0 h1;have g0:ws.length=0:=hw;clear hw;cases Pu.len0 g0;exact PySem.W.kp_binds i (λ S=>rfl))
  (case cG=>intro s us ws i hl hw;have h0:us.length=1:=(by simp only[List.length_cons,List.length_nil] at hl;omega);clear hl;obtain⟨u0,us0,rfl,h1⟩:=Pu.BJ h0;clear h0;cases Pu.len0 h1;have g0:ws.length=1:=hw;clear hw;obtain⟨w0,ws0,rfl,g1⟩:=Pu.BJ g0;clear g0;cases Pu.len0 g1;exact PySem.W.kp_binds i (λ S=>rfl))
  (case ig=>intro s us ws i hl hw;have h0:us.length=1:=(by simp only[List.length_cons,List.length_nil] at hl;omega);clear hl;obtain⟨u0,us0,rfl,h1⟩:=Pu.BJ h0;clear h0;cases Pu.len0 h1;have g0:ws.length=0:=hw;clear hw;cases Pu.len0 g0;exact PySem.W.kp_binds i (λ S=>rfl))
  (case iu=>intro s us ws i hl hw;have h0:us.length=1:=(by simp only[List.length_cons,List.length_nil] at hl;omega);clear hl;obtain⟨u0,us0,rfl,h1⟩:=Pu.BJ h0;clear h0;cases Pu.len0 h1;have g0:ws.length=1:=hw;clear hw;obtain⟨w0,ws0,rfl,g1⟩:=Pu.BJ g0;clear g0;cases Pu.len0 g1;exact PySem.W.kp_binds i (λ S=>rfl))
