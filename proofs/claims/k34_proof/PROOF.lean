import PyProof.Rows.All
import Wide.All
import OpenK.AllK
import Wide.FinOn
import Lean
import PyProof.EqAt
import PyProof.EqKinds
import PyProof.TupleCall
import PyProof.NeKinds
import PySem.Challenge.RW_seamhall_k34_cleared
set_option bootstrap.genMatcherCode false
set_option compiler.extract_closed false
set_option genSizeOf false
set_option genInjectivity false
set_option tactic.hygienic false
set_option Elab.async false
set_option linter.all false
set_option maxRecDepth 100000
set_option maxHeartbeats 4000000
theorem z0a (n : Nat) : (0 : Int) ≤ (n : Int) := Int.natCast_nonneg n
theorem z0b {a b c : Nat} (h : a ≤ b) (k : b ≤ c) : a ≤ c := Nat.le_trans h k
theorem z0c {a b c : Nat} (h : a ≤ b) (k : b < c) : a < c := Nat.lt_of_le_of_lt h k
theorem z0d {a b c : Nat} (h : a < b) (k : b ≤ c) : a < c := Nat.lt_of_lt_of_le h k
theorem z0e {a b : Nat} (h : a < b) : a ≤ b := Nat.le_of_lt h
theorem z0f {a b : Nat} (h : a = b) : a ≤ b := Nat.le_of_eq h
theorem z0g (a : Nat) : a ≤ a := Nat.le_refl a
theorem z0h {a b : Nat} (h : a ≤ b) (k : ¬ a = b) : a < b := Nat.lt_of_le_of_ne h k
theorem bc {p:Prop} (h:¬p->False):p:=Classical.byContradiction h
theorem oq0 {x0 x1 x2:Nat} (a0:x0=x2) (a1:x2<=x1):x0<=x1:=by (subst a0;exact a1)
theorem PB {x0 x1 x2:Nat} (a0:x2=x0) (a1:x2<=x1):x0<=x1:=by (subst a0;exact a1)
theorem oq2 {x0 x1:Nat} (a0:x0<=x1):((x0:Int) - (x1:Int))<=(0:Int):=by exact Int.sub_nonpos_of_le (Int.ofNat_le.mpr a0)
theorem oq3 {x0 x1:Int} (a0:x1 < x0):((((Int.toNat (x0 - x1)):Nat):Int) - ((0:Nat):Int))=(x0 - x1):=by exact Int.toNat_of_nonneg (Int.sub_nonneg_of_le (Int.le_of_lt a0))
theorem oq4 {x0 x1:Int} (a0:¬(x1 < x0)):((((Int.toNat (x0 - x1)):Nat):Int) - ((0:Nat):Int))=(0:Int):=by (rw[Int.toNat_of_nonpos (Int.sub_nonpos_of_le (Int.not_lt.mp a0))];rfl)
theorem oq5 {x0:Int} (a0:(0:Int) < x0):x0≠(0:Int):=by exact Int.ne_of_gt a0
theorem oq6 {x0 x1:Nat} (a0:x0<=x1) (a1:x1=16777216):x0<=1099511627776:=by (subst a1;exact z0b a0 (by decide))
theorem oq7 {x0 x1 x2 x3:Nat} (a0:((x0+(16*x3))+200) < x2) (a1:x1<=x3):((x0+(16*x1))+200) < x2:=by exact z0c (Nat.add_le_add_right (Nat.add_le_add_left (Nat.mul_le_mul_left 16 a1) _) 200) a0
theorem oq8 {x0 x1 x2 x3:Nat} (a0:((x0+(3*x3))+5) < x2) (a1:x1<=x3):((x0+(3*x1))+5) < x2:=by exact z0c (Nat.add_le_add_right (Nat.add_le_add_left (Nat.mul_le_mul_left 3 a1) _) 5) a0
theorem oq9 {x0 x1 x2:Nat} (a0:((x0+(16*(x1+1)))+200) < x2):(((x0+3)+(16*x1))+200) < x2:=by exact z0c (Nat.add_le_add_right (by rw[Nat.mul_succ,Nat.add_assoc,Nat.add_comm 3];exact Nat.add_le_add_left (Nat.add_le_add_left (by decide) _) _) 200) a0
theorem anb {x0 x1 x2:Nat} (a0:((x0+(3*(x1+1)))+5) < x2):(((x0+1)+(3*x1))+5) < x2:=by exact z0c (Nat.add_le_add_right (by rw[Nat.mul_succ,Nat.add_assoc,Nat.add_comm 1];exact Nat.add_le_add_left (Nat.add_le_add_left (by decide) _) _) 5) a0
theorem anc {x0 x1 x2:Nat} (a0:((x0+(3*x2))+5) < x1):x0 < x1:=by exact z0c (z0b (Nat.le_add_right _ _) (Nat.le_add_right _ _)) a0
theorem ane {x0 x1:Nat} (a0:(min x0 x1)=x0):x0<=x1:=by exact z0b (z0f a0.symm) (Nat.min_le_right _ _)
theorem aie {x0 x1 x2:Nat} (a0:x0 < x2) (a1:x2=x1):x0 < x1:=by exact a1▸a0
theorem anf {x0 x1 x2:Nat} (a0:x0=x2) (a1:x2<=x1):(x0+(x1 - x0))=x1:=by (subst a0;exact Nat.add_sub_cancel' a1)
theorem ang {x1:Nat} {x0:Int} (a0:x0 < (0:Int)):(Int.toNat (x0+(x1:Int)))<=x1:=by exact Int.toNat_le.mpr (Int.le_trans (Int.add_le_add_right (Int.le_of_lt a0) _) (Int.le_of_eq (Int.zero_add _)))
theorem anh {x1:Nat} {x0:Int} (a0:x0 < (0:Int)):(x0+(x1:Int))<=(x1:Int):=by exact Int.le_trans (Int.add_le_add_right (Int.le_of_lt a0) _) (Int.le_of_eq (Int.zero_add _))
theorem ani:¬((1:Int) < (0:Int)):=by decide
theorem anj {x0 x1:Nat}:(Int.toNat ((((x0:Int) - (x1:Int)) - (1:Int))+(1:Int)))=(x0 - x1):=by (rw[Int.sub_add_cancel];exact Int.toNat_sub _ _)
theorem ank {x0 x1:Nat} (a0:¬((x1:Int) < (x0:Int))):(Int.toNat (0:Int))=(x0 - x1):=by exact (Nat.sub_eq_zero_of_le (Int.ofNat_le.mp (Int.not_lt.mp a0))).symm
theorem anl {x0 x1:Nat}:(Int.toNat ((x0:Int)+((x1:Int)*(1:Int))))=(x0+x1):=by (rw[Int.mul_one];exact Int.toNat_natCast _)
theorem anm {x0 x1 x2 x3:Nat} (a0:x2<=x3):(min (x0 - x1) (x2 - x1))<=x3:=by exact z0b (Nat.min_le_right _ _) (z0b (Nat.sub_le _ _) a0)
theorem ano {x0 x1 x2:Nat} (a0:(x0 - x2)=x1) (a1:x0<=x1):x0=x1:=by (subst a0;exact Nat.le_antisymm a1 (Nat.sub_le _ _))
theorem anp {x0:Nat} (a0:(x0:Int)=(0:Int)):x0=(0:Nat):=by exact Int.ofNat.inj a0
theorem anq {x0 x1 x2:Nat}:(min (x0 - x1) (x2 - x1))<=x2:=by exact z0b (Nat.min_le_right _ _) (Nat.sub_le _ _)
theorem anr {x0:Nat} {x1:Int} (a0:(0:Int)<=x1):(-(x0:Int))<=x1:=by exact Int.le_trans (Int.neg_nonpos_of_nonneg (z0a _)) a0
theorem ant {x0 x1:Nat} {x2:Int} (a0:(0:Int)<=x2) (a1:(Int.toNat x2)=x0) (a2:x2 < (x1:Int)):x0 < x1:=by (subst a1;exact (Int.toNat_lt a0).mpr a2)
theorem anu {x1:Nat} {x0:Int} (a0:¬((0:Int)<=x0)):x0 < (x1:Int):=by exact Int.lt_of_lt_of_le (Int.not_le.mp a0) (z0a _)
theorem anv {x0 x1:Nat} {x2:Int} (a0:(-(x1:Int))<=x2) (a1:(Int.toNat (x2+(x1:Int)))=x0) (a2:¬((0:Int)<=x2)):x0 < x1:=by (subst a1;have h:=Int.add_le_add_right a0 x1;rw[Int.add_left_neg] at h;refine (Int.toNat_lt h).mpr ?_;have q:=Int.add_lt_add_right (Int.not_le.mp a2) x1;rw[Int.zero_add] at q;exact q)
theorem anw {x0 x2:Nat} {x1:Int} (a0:(-(x2:Int))<=x1) (a1:x2=x0):(-(x0:Int))<=x1:=by exact a1▸a0
theorem anx {x0 x1 x2:Nat} (a0:x2 < x1) (a1:x2=x0):x0<=x1:=by exact z0e (a1▸a0)
theorem anz {x0:Int} (a0:(0:Int) < x0):(Int.natAbs x0)≠(0:Nat):=by exact λ h=>Int.ne_of_gt a0 (Int.natAbs_eq_zero.mp h)
theorem anA {x0:Nat} (a0:x0 < 64):x0 < 9000:=by exact ((λ h=>z0d h (Nat.le_add_left _ _)) a0)
theorem anB {x0 x1:Int} (a0:((0:Int) < x0)/\(x0 < x1)):x0≠(0:Int):=by exact Int.ne_of_gt (And.left a0)
theorem anC {x0 x1:Nat} (a0:¬(x0 < x1)):x0=(x1+(x0 - x1)):=by exact (Nat.add_sub_cancel' (Nat.not_lt.mp a0)).symm
theorem aif {x0 x1:Nat}:((x0+x1) - x0)=x1:=by exact Nat.add_sub_cancel_left _ _
theorem anD {x0 x1 x2:Nat} (a0:x0 < x2) (a1:x2<=x1):x0≠x1:=by exact Nat.ne_of_lt (z0d a0 a1)
theorem aii {x0 x1:Nat} (a0:x1=(x0+1)):x0<=x1:=by exact a0▸Nat.le_succ _
theorem aij {x0 x1 x2:Nat} (a0:(x0+1)<=x1) (a1:x0=(x2+1)) (a2:x1 < x2):False:=by (subst a1;exact absurd (z0c a0 a2) (Nat.not_lt.mpr (Nat.le_add_right _ 2)))
theorem aik {x0 x1 x2:Nat} (a0:(x2+1)<=x1) (a1:x2=(x0+1)):x0<=x1:=by (subst a1;exact z0b (Nat.le_add_right _ 2) a0)
theorem ail {x0 x1 x2:Nat} (a0:x0 < x2) (a1:x1=(x2+1)):x0≠x1:=by (subst a1;exact Nat.ne_of_lt (Nat.lt_succ_of_lt a0))
theorem ain {x0 x1 x2 x3:Nat} (a0:(x2+1)<=x0) (a1:x1 < x3) (a2:x2=(x3+1)):x0≠x1:=by (subst a2;exact Nat.ne_of_gt (z0d a1 (z0b (Nat.le_add_right _ 2) a0)))
theorem anE {x0 x1:Nat} (a0:x0=(x1+1)):x0≠x1:=by (subst a0;exact Nat.succ_ne_self _)
theorem anF {x0 x1 x2:Nat} (a0:(x2+1)<=x0) (a1:x2=(x1+1)):x0≠x1:=by (subst a1;exact Nat.ne_of_gt (z0d (Nat.lt_succ_of_lt (Nat.lt_succ_self _)) a0))
theorem anG {x0 x1:Nat} (a0:x1 < x0):(x0 - (x1+1)) < (x0 - x1):=by exact Nat.sub_lt_sub_left a0 (Nat.lt_succ_self _)
theorem ae5 {x0 x1:Nat} (a0:x0<=x1) (a1:¬(x0 < x1)):x0=x1:=by exact Nat.le_antisymm a0 (Nat.not_lt.mp a1)
theorem aio {x0 x1 x2:Nat} (a0:1000000 < x1) (a1:x2 < 1000000) (a2:x2=x0):x0 < x1:=by exact Nat.lt_trans (a2▸a1) a0
theorem anH {x0 x1 x2 x3:Nat} (a0:x0=(x3+x2)) (a1:x1=x3):(x0 - x1)=x2:=by (subst a0 a1;exact Nat.add_sub_cancel_left _ _)
theorem aip {x0 x1 x2 x3:Nat} (a0:x0=x3) (a1:x2=(x3+x1)):(x0+x1)=x2:=by (rw[a0,a1])
theorem Tp {x0 x1 x2:Nat} (a0:x0 < x2) (a1:x1=x2):x0 < x1:=by (subst a1;exact a0)
theorem aiq {x0:Nat} (a0:(x0+1)<=0):False:=by exact Nat.not_succ_le_zero _ a0
theorem anI {x0 x1 x2:Nat} (a0:(x0+(x2+1)) < x1):x0 < x1:=by exact z0c (Nat.le_add_right _ _) a0
theorem air {x0 x1 x2:Nat} (a0:(x2+1)<=(x1+1)) (a1:x0<=x2):x0<=x1:=by exact z0b a1 (Nat.le_of_lt_succ a0)
theorem anJ {x0 x1 x2:Nat} (a0:(x0+(x1+1)) < x2):((x0+1)+x1) < x2:=by exact z0c (z0f (Nat.succ_add _ _)) a0
theorem ais {x0 x1:Nat} (a0:(x0+60) < x1):x0 < x1:=by exact z0c (Nat.le_add_right _ _) a0
theorem aaE {x0 x1:Nat} (a0:(x1+1)<=40) (a1:x0<=x1):x0<=40:=by exact z0b a1 (Nat.le_of_succ_le a0)
theorem ait {x0 x1:Nat} (a0:(x0+60) < x1):((x0+1)+40) < x1:=by exact z0c (Nat.add_le_add_left (by decide:41<=60) x0) a0
theorem aiu {x0 x1:Nat} (a0:x0 < 1) (a1:x1 < x0):False:=by exact Nat.not_lt_zero _ (z0d a1 (Nat.le_of_lt_succ a0))
theorem ae6 {x0 x1:Nat} (a0:x0 < (x1+1)) (a1:¬(x0 < x1)):x0=x1:=by exact Nat.le_antisymm (Nat.le_of_lt_succ a0) (Nat.not_lt.mp a1)
theorem aiv {x0 x1:Nat} (a0:x1 < x0):(x0 - 1) < x0:=by exact Nat.sub_lt (Nat.zero_lt_of_lt a0) Nat.zero_lt_one
theorem aiw {x0 x1:Nat} (a0:x0 < x1) (a1:¬(x0=(x1 - 1))):x0 < (x1 - 1):=by exact z0h (Nat.le_sub_one_of_lt a0) a1
theorem Dg {x0 x1:Nat} (a0:x0 < x1):(x0 - 1) < x1:=by exact z0c (Nat.sub_le _ _) a0
theorem Iw {x0 x1 x2:Nat} (a0:(x0+(x2+1))<=x1):(x0 - 1) < x1:=by exact z0c (Nat.sub_le _ _) (z0d (Nat.lt_add_of_pos_right (Nat.succ_pos _)) a0)
theorem uN {x0 x1 x2:Nat} (a0:(x0+(x2+1))<=x1):x0 < x1:=by exact z0d (Nat.lt_add_of_pos_right (Nat.succ_pos _)) a0
theorem aix {x0:Nat} (a0:1<=x0):x0≠(x0 - 1):=by exact Nat.ne_of_gt (Nat.sub_lt a0 Nat.zero_lt_one)
theorem ae7 {x0 x1 x2:Nat} (a0:(x0+(x1+1))<=x2):((x0+1)+x1)<=x2:=by exact z0b (z0f (Nat.succ_add _ _)) a0
theorem aiy {x0 x1 x2:Nat} (a0:x0 < (x1+(x2+1))):x0 < ((x1+1)+x2):=by exact z0d a0 (z0f (Nat.succ_add _ _).symm)
theorem ae8 {x0 x1 x2:Nat} (a0:x0<=((x1+1)+x2)):x0<=(x1+(x2+1)):=by exact z0b a0 (z0f (Nat.succ_add _ _))
theorem anK {x0 x1:Nat}:(((0+x0) - 1) - x1)=((x0 - 1) - x1):=by simp
theorem anL {x0 x1:Nat} (a0:1<=x0):((x0 - 1) - x1) < x0:=by exact z0c (Nat.sub_le _ _) (Nat.sub_lt a0 Nat.zero_lt_one)
theorem anM {x0 x1 x2:Nat} (a0:x1 < x0) (a1:x2 < x1):((x0 - 1) - x1) < ((x0 - 1) - x2):=by exact Nat.sub_lt_sub_left (z0d a1 (Nat.le_sub_one_of_lt a0)) a1
theorem aiz {x0 x1:Nat} (a0:x0<=x1):(x0+(x1 - x0))<=x1:=by exact z0f (Nat.add_sub_cancel' a0)
theorem anN {x0 x1 x2:Nat} (a0:x0<=(x2+(x1 - x2))) (a1:x2<=x1):x0<=x1:=by simp_all
theorem anO {x0:Nat} (a0:1<=x0):(1+(x0 - 1))<=x0:=by exact z0f (Nat.add_sub_cancel' a0)
theorem anP {x0 x1:Nat} (a0:1<=x1) (a1:x0<=(1+(x1 - 1))):(x0 - 1) < x1:=by exact z0d (z0c (Nat.sub_le_sub_right a1 1) (by rw[Nat.add_sub_cancel_left];exact Nat.sub_lt a0 Nat.zero_lt_one)) (z0g _)
theorem aiA {x0:Nat} (a0:1<=x0):(x0 - 1) < x0:=by exact Nat.sub_lt a0 Nat.zero_lt_one
theorem anQ {x0:Nat} (a0:x0 > 1):0 < (x0 - 1):=by exact Nat.sub_pos_of_lt a0
theorem anR {x0 x1:Nat} (a0:1<=x1) (a1:x0<=(1+(x1 - 1))):x0<=x1:=by exact z0b a1 (z0f (Nat.add_sub_cancel' a0))
theorem anS {x0:Nat} (a0:1<=x0) (a1:¬(x0 > 1)):x0=1:=by exact Nat.le_antisymm (Nat.not_lt.mp a1) a0
theorem anT {x0:Nat} (a0:1<=x0) (a1:¬(1=x0)):1 < (1+(x0 - 1)):=by (rw[Nat.add_sub_cancel' a0];exact z0h a0 a1)
theorem anU {x0:Nat} (a0:1<=x0) (a1:¬(1=x0)):((1+1)+(x0 - (1+1)))<=x0:=by (rw[Nat.add_sub_cancel' (z0h a0 a1)];exact z0g _)
theorem anV {x0:Nat} (a0:x0=0):¬(x0 > 0):=by exact Nat.not_lt.mpr (z0f a0)
theorem anW {x0 x1:Nat} (a0:1<=x1) (a1:x0<=((1+1)+(x1 - (1+1)))) (a2:¬(1=x1)):x0<=x1:=by exact z0b a1 (z0f (Nat.add_sub_cancel' (z0h a0 a2)))
theorem anY {x0 x1 x2:Nat} (a0:(x0 - x2)<=0) (a1:x2<=x1):x0<=x1:=by exact z0b (Nat.le_of_sub_eq_zero (Nat.le_zero.mp a0)) a1
theorem anZ {x0 x1 x2:Nat} (a0:x1<=x2) (a1:¬(x0>=x1)):((x0+x1) / 2) < x2:=by exact z0d (Nat.div_lt_of_lt_mul (by rw[Nat.two_mul];exact Nat.add_lt_add_right (Nat.not_le.mp a1) _)) a0
theorem an0 {x0 x1 x2:Nat} (a0:(x1 - x0)<=(x2+1)):(((x0+x1) / 2) - x0)<=x2:=by exact Nat.sub_le_of_le_add (Nat.le_of_lt_succ (Nat.div_lt_of_lt_mul (by rw[Nat.two_mul,Nat.succ_eq_add_one];exact z0c (Nat.add_le_add_left (Nat.sub_le_iff_le_add.mp a0) x0) (by rw[Nat.add_right_comm x2];exact Nat.add_lt_add_right (Nat.lt_succ_of_le (Nat.le_add_left _ _)) _))))
theorem ae9 {x0 x1:Nat} (a0:x0<=x1):x0<=((x0+x1) / 2):=by exact (Nat.le_div_iff_mul_le (by decide)).mpr (by rw[Nat.mul_two];exact Nat.add_le_add_left a0 _)
theorem an5 {x0 x1 x2:Nat} (a0:((x0+x1) / 2)<=x2) (a1:¬(x2=((x0+x1) / 2))):((x0+x1) / 2) < x2:=by exact z0h a0 λ h=>a1 h.symm
theorem an6 {x0 x1 x2:Nat} (a0:x0 < x2) (a1:x2 < x1):x0 < x1:=by exact Nat.lt_trans a0 a1
theorem aiB {x0 x1 x2 x3:Nat} (a0:x0<=x1) (a1:x1<=x3) (a2:x3 < x2):((x0+x1) / 2) < x2:=by exact z0c (z0b (Nat.div_le_of_le_mul (by rw[Nat.two_mul];exact Nat.add_le_add_right a0 _)) a1) a2
theorem an7 {x0 x1 x2:Nat} (a0:(x0 - x1)<=(x2+1)):(x0 - (((x1+x0) / 2)+1))<=x2:=by exact (Nat.le_total x1 x0).elim (λ h=>z0b (Nat.sub_le_sub_left (Nat.succ_le_succ (ae9 h)) x0) (Nat.sub_le_of_le_add a0:x0 - x1 - 1<=x2)) λ h=>z0b (z0f (Nat.sub_eq_zero_of_le (Nat.le_succ_of_le (Nat.add_comm x0 x1▸ae9 h)))) (Nat.zero_le _)
theorem an8 {x0 x1:Nat} (a0:¬(x0>=x1)):(((x0+x1) / 2)+1)<=x1:=by exact Nat.div_lt_of_lt_mul (by rw[Nat.two_mul];exact Nat.add_lt_add_right (Nat.not_le.mp a0) _)
theorem an9 {x0 x1 x2:Nat} (a0:x0 < (((x1+x2) / 2)+1)) (a1:¬(x0=((x1+x2) / 2))):x0 < ((x1+x2) / 2):=by exact z0h (Nat.le_of_lt_succ a0) a1
theorem aoa {x0 x1 x2 x3 x4:Nat} (a0:x0 < (((x2+x3) / 2)+1)) (a1:x2<=x3) (a2:x3<=x4) (a3:x4 < x1):x0 < x1:=by exact z0c (z0b (z0b (Nat.le_of_lt_succ a0) (Nat.div_le_of_le_mul (by rw[Nat.two_mul];exact Nat.add_le_add_right a1 _))) a2) a3
theorem aob {x0 x1:Nat} (a0:x0 < x1) (a1:x1<=x0):False:=by exact absurd a0 (Nat.not_lt.mpr a1)
theorem aoc {x0:Nat} (a0:x0 < 0):False:=by exact Nat.not_lt_zero _ a0
theorem aod {x0 x1:Nat} (a0:x1<=x0):(x0 - (x0 - x1))=x1:=by exact Nat.sub_sub_self a0
theorem aoe {x0 x1 x2:Nat} (a0:x2 < x1) (a1:x2=x0):x0 < x1:=by (subst a1;exact a0)
theorem aof {x0 x1 x2:Nat} (a0:x2 < x0) (a1:x2=x1):¬(x0=x1):=by exact Nat.ne_of_gt (a1▸a0)
theorem afa {x0 x1 x2:Nat} (a0:x0 < (x1+1)) (a1:x2 < x0):(x0 - 1) < x1:=by exact z0d (Nat.sub_lt (Nat.zero_lt_of_lt a1) Nat.zero_lt_one) (Nat.le_of_lt_succ a0)
theorem ajQ {x0 x1 x2:Nat} (a0:x2 < x1) (a1:x2=x0):x0<=(x1 - 1):=by exact Nat.le_sub_one_of_lt (a1▸a0)
theorem ajR {x0 x1 x2 x3:Nat} (a0:(x0 < x2)/\(x2<=x3)) (a1:x2 < x1):x0 < x1:=by exact Nat.lt_trans a0.1 a1
theorem ajS {x0 x1 x2 x3:Nat} (a0:(x1 < x2)/\(x2<=x3)) (a1:x2 < x0):¬(x0=x1):=by exact Nat.ne_of_gt (Nat.lt_trans a0.1 a1)
theorem ajT {x0 x1 x2 x3:Nat} (a0:(x2 < x0)/\(x0<=x3)) (a1:x0 < x1):(x0 - 1) < (x1 - 1):=by exact Nat.sub_lt_sub_right (Nat.zero_lt_of_lt a0.1) a1
theorem ajU {x0 x1 x2 x3:Nat} (a0:x0 < x2) (a1:x2 < (x3+1)) (a2:¬((x1 < x0)/\(x0<=x3))) (a3:¬(x0=x1)):x0 < x1:=by exact z0h (Nat.not_lt.mp λ h=>a2 ⟨h,Nat.le_of_lt_succ (Nat.lt_trans a0 a1)⟩) a3
theorem ajV {x0 x1 x2 x3:Nat} (a0:(x0 < x1)/\(x1<=x2)) (a1:x3=(x1 - 1)) (a2:¬((x0 < x3)/\(x3<=x2))) (a3:¬(x3=x0)):False:=by (subst a1;exact a2 ⟨z0h (Nat.le_sub_one_of_lt a0.1) (Ne.symm a3),z0b (Nat.sub_le _ _) a0.2⟩)
theorem ajW {x0 x1 x2 x3:Nat} (a0:(x2 < x1)/\(x1<=x3)) (a1:x0 < x1) (a2:¬((x2 < x0)/\(x0<=x3))) (a3:¬(x0=x2)):x0 < (x1 - 1):=by exact z0h (Nat.le_sub_one_of_lt a1) λ h=>by subst h;exact a2 ⟨z0h (Nat.le_sub_one_of_lt a0.1) (Ne.symm a3),z0b (Nat.sub_le _ _) a0.2⟩
theorem ajX {x0 x1 x2:Nat} (a0:x0 < (x1+1)) (a1:x2<=x1) (a2:¬((x2 < x0)/\(x0<=x1))) (a3:¬(x0=x2)):x0 < x1:=by exact z0h (Nat.le_of_lt_succ a0) λ h=>a3 (Nat.le_antisymm (Nat.not_lt.mp λ q=>a2 ⟨q,Nat.le_of_lt_succ a0⟩) (h▸a1))
theorem ajY {x0 x1:Nat}:(x0+(x1+1))=((x0+1)+x1):=by exact (Nat.succ_add _ _).symm
theorem ajZ {x0:Nat} (a0:1<=x0):(max x0 1)=x0:=by exact Nat.max_eq_left a0
theorem aj0 {x0 x1:Nat} (a0:x0<=x1):(x0+(x1 - x0))=x1:=by exact Nat.add_sub_cancel' a0
theorem SQ {x0:Nat} (a0:x0 < 64):x0<=16777216:=by exact z0b (z0e a0) (by decide)
theorem agk {x0:Nat} (a0:x0 < 64):x0<=(16777216+1):=by exact (λ h=>z0b h (Nat.le_add_left _ _)) (z0e a0)
theorem aj1 {x0 x1 x2 x3:Nat} (a0:x0 < 2) (a1:x0=x1) (a2:x2 < x1) (a3:x3 < x2):False:=by (subst a1;exact Nat.not_lt_zero _ (z0d a3 (Nat.le_of_lt_succ (z0d a2 (Nat.le_of_lt_succ a0)))))
theorem aj2 {x0 x1 x2:Nat} (a0:((x0+(16*x2))+200) < x1):(x0+60) < x1:=by exact z0c (Nat.add_le_add (Nat.le_add_right _ _) (by decide)) a0
theorem aj3 {x0 x1 x2:Nat} (a0:x0<=x2) (a1:x1<=x2):(max x0 x1)<=x2:=by exact Nat.max_le.mpr ⟨a0,a1⟩
theorem aj4:(2147483563:Int)≠(0:Int):=by decide
theorem aj5:(2147483399:Int)≠(0:Int):=by decide
theorem aj6 {x0:Int} (a0:(0:Int)<=x0) (a1:x0 < ((0:Nat):Int)):False:=by exact absurd a1 (Int.not_lt.mpr a0)
theorem aj7 {x1:Nat} {x0:Int} (a0:x0 < (((x1+(1:Nat)):Nat):Int)):(x0 - (1:Int)) < (x1:Int):=by exact Int.sub_right_lt_of_lt_add a0
theorem aj8 {x0:Int} (a0:(0:Int) < x0):(0:Int)<=(x0 - (1:Int)):=by exact (Int.sub_nonneg_of_le a0)
theorem aj9 {x0:Int} (a0:x0 < (60:Int)):x0 < ((64:Nat):Int):=by exact Int.lt_trans a0 (by decide)
theorem akb {x0:Nat} (a0:x0<=0):(x0+1)<=40:=by exact z0b (Nat.succ_le_succ a0) (by decide)
theorem akc {x0:Nat}:(0:Int) < (((x0+(1:Nat)):Nat):Int):=by exact Int.ofNat_lt.mpr (Nat.succ_pos _)
theorem akd {x0 x1:Nat} (a0:(x0:Int) > (x1:Int)) (a1:x0<=x1):False:=by exact Nat.not_lt.mpr a1 (Int.ofNat_lt.mp a0)
theorem agl {x0 x1:Nat} (a0:¬(x1<=x0)):x0 < x1:=by exact Nat.not_le.mp a0
theorem ake {x0 x1 x2 x3:Nat} (a0:(x2<=x1)\/(x3<=x1)) (a1:x3=x0) (a2:¬(x2<=x1)):x0<=x1:=by exact a1▸a0.resolve_left a2
theorem akf {x0 x1 x2:Nat} (a0:(min x0 x2)<=x1):(x0<=x1)\/(x2<=x1):=by exact (Nat.le_total x0 x2).elim (λ h=> .inl (Nat.min_eq_left h▸a0)) (λ h=> .inr (Nat.min_eq_right h▸a0))
theorem akg {x0:Nat}:(x0+1)≠x0:=by exact Nat.succ_ne_self _
theorem akh {x0 x1:Nat} (a0:x0 < x1):(x0+1)<=x1:=by exact a0
theorem aki {x0 x1:Nat} (a0:x1<=x0):((x0+1) - (x1+1)) < ((x0+1) - x1):=by exact Nat.sub_lt_sub_left (Nat.lt_succ_of_le a0) (Nat.lt_succ_self _)
theorem akj {x0 x1 x2 x3 x4:Nat} (a0:1000000 < x1) (a1:(x2+(x3+1))=x4) (a2:x2=x0) (a3:x4<=1000000):x0 < x1:=by (subst a2;exact z0c (z0b (z0b (Nat.le_add_right _ _) (z0f a1)) a3) a0)
theorem akk {x0 x1 x2:Nat} (a0:x0=x2) (a1:x1=(x2+1)):x0<=x1:=by (subst a0 a1;exact Nat.le_succ _)
theorem akl {x0 x1 x2:Nat} (a0:x0=(x1+x2)):(x0 - x1)=x2:=by (subst a0;exact Nat.add_sub_cancel_left _ _)
theorem akm {x0 x1:Nat} (a0:(min (x0+1) x1)=(x0+1)):(x0+1)<=x1:=by exact z0b (z0f a0.symm) (Nat.min_le_right _ _)
theorem akn {x0 x1 x2:Nat} (a0:x0 < (x2+1)) (a1:x2=x1):x0 < (x1+1):=by (subst a1;exact a0)
theorem ako {x0 x1 x2:Nat} (a0:(x2+1)<=x1) (a1:x0=x2):((x0+1)+(x1 - (x0+1)))=x1:=by (subst a1;exact Nat.add_sub_cancel' a0)
theorem akp {x0 x1 x2 x3 x4:Nat} (a0:1000000 < x2) (a1:(x3+x4)<=1000000) (a2:x3=x0) (a3:x4=x1):(x0+x1)<=(x2+1):=by (subst a2 a3;exact z0b a1 (z0b (z0e a0) (Nat.le_succ _)))
theorem akq {x0 x1 x2 x3 x4:Nat} (a0:1000000 < x2) (a1:(x3+x4)<=1000000) (a2:x3=x0) (a3:x4=x1):¬((x0+x1) > x2):=by (subst a2 a3;exact Nat.not_lt.mpr (z0b a1 (z0e a0)))
theorem akr {x0 x1 x2:Nat} (a0:1000000 < x2) (a1:(x0+x1)<=1000000):(x0+x1)<=x2:=by exact z0b a1 (z0e a0)
theorem aks {x0:Int}:(x0 - (0:Int))=x0:=by exact Int.sub_zero _
theorem akt {x0:Int} (a0:(0:Int)<=x0) (a1:¬((0:Int) < x0)):(0:Int)=x0:=by exact Int.le_antisymm a0 (Int.not_lt.mp a1)
theorem aku {x0:Int}:((0:Int)+((x0 - (1:Int))*(1:Int)))=(x0 - (1:Int)):=by simp
theorem akv {x0:Int} (a0:(0:Int)<=x0):((((Int.toNat x0):Nat):Int) - ((0:Nat):Int))=x0:=by exact Int.toNat_of_nonneg a0
theorem akx {x0 x1 x2:Int} (a0:x0 < x2) (a1:x2 < x1):x0 < x1:=by exact Int.lt_trans a0 a1
theorem aky {x0 x1 x2:Int} (a0:x0 < x2) (a1:x2 < x1):¬(x0=x1):=by exact Int.ne_of_lt (Int.lt_trans a0 a1)
theorem akz {x0 x1:Int} (a0:¬(x1 < x0)) (a1:¬(x1=x0)):x0 < x1:=by exact Int.lt_iff_le_and_ne.mpr ⟨Int.not_lt.mp a0,λ h=>a1 h.symm⟩
theorem akA {x0 x1 x2:Nat} (a0:((x0+(16*x2))+200) < x1):(x0+2) < x1:=by exact z0c (Nat.add_le_add (Nat.le_add_right _ _) (by decide)) a0
theorem akB {x0 x1:Int} (a0:x1 < x0):(x0 - x1)=(((Int.toNat (x0 - x1)):Nat):Int):=by exact (Int.toNat_of_nonneg (Int.sub_nonneg_of_le (Int.le_of_lt a0))).symm
theorem akC {x0 x1:Int} (a0:¬(x1 < x0)):(0:Int)=(((Int.toNat (x0 - x1)):Nat):Int):=by (rw[Int.toNat_of_nonpos (Int.sub_nonpos_of_le (Int.not_lt.mp a0))];rfl)
theorem akD {x0 x1:Int} (a0:(-(1000:Int))<=x1) (a1:x0<=(1000:Int)):(Int.toNat (x0 - x1))<=(1000000:Nat):=by exact Int.toNat_le.mpr (Int.le_trans (Int.sub_le_sub a1 a0) (by decide))
theorem dY {x0:Nat} (a0:x0<=20):x0<=1000000:=by exact z0b a0 (by decide)
theorem akE {x0 x1:Nat} (a0:(x0+(x1+1))<=1000000):((x0+(0+1))+x1)<=1000000:=by exact z0b (z0f (Nat.succ_add _ _)) a0
theorem akF {x0:Nat} (a0:x0<=20):(0+x0)<=1000000:=by exact z0b (z0f (Nat.zero_add _)) (z0b a0 (by decide))
theorem agm {x0:Nat}:(0:Int)<=(x0:Int):=by exact z0a _
theorem akG {x2:Nat} {x0 x1:Int} (a0:(0:Int)<=x0) (a1:(0:Int)<=x1):(0:Int)<=(((x0+(1:Int))+x1)+(x2:Int)):=by exact Int.add_nonneg (Int.add_nonneg (Int.add_nonneg a0 (by decide)) a1) (z0a _)
theorem akH {x0 x1:Int} (a0:((0:Int)<=x0)/\(x0 < x1)) (a1:x1<=(100:Int)):((0:Int)<=x0)/\(x0<=(99:Int)):=by exact⟨a0.1,Int.le_of_lt_add_one (Int.lt_of_lt_of_le a0.2 a1)⟩
theorem akI {x0:Nat}:¬((x0:Int) < (0:Int)):=by exact Int.not_lt.mpr (z0a _)
theorem akJ {x0 x1:Nat} (a0:x0 < x1):((min x0 x1)+(x1 - (x0+1)))=(x1 - 1):=by (rw[Nat.min_eq_left (z0e a0),Nat.sub_add_eq,Nat.sub_right_comm];exact Nat.add_sub_cancel' (Nat.le_sub_one_of_lt a0))
theorem akK {x0 x1 x2:Nat} (a0:x0 < x1) (a1:x1 < x2):x0 < (min x1 x2):=by exact Nat.lt_min.mpr ⟨a0,Nat.lt_trans a0 a1⟩
theorem akL {x0 x1 x2:Nat} (a0:¬(x2 < x0)):(min x0 x1)<=x2:=by exact z0b (Nat.min_le_left _ _) (Nat.not_lt.mp a0)
theorem akM {x0 x1 x2:Nat} (a0:x0 < x2) (a1:¬(x1 < x0)):((x0+1)+(x1 - (min x0 x2)))=(x1+1):=by (rw[Nat.min_eq_left (z0e a0),Nat.succ_add,Nat.add_sub_cancel' (Nat.not_lt.mp a1)])
theorem agn {x0 x1:Nat} (a0:x0 < (x1 - 1)):(x0+1) < x1:=by exact Nat.add_lt_of_lt_sub a0
theorem akN {x0 x1:Nat} (a0:x0 < (x1 - 1)):x0 < x1:=by exact z0d a0 (Nat.sub_le _ _)
theorem akO {x0 x1:Nat} (a0:x1<=20):((min x0 x1)+(x1 - (x0+1)))<=1000000:=by exact z0b (Nat.add_le_add (z0b (Nat.min_le_right _ _) a0) (z0b (Nat.sub_le _ _) a0)) (by decide)
theorem akP {x0:Nat} (a0:x0<=20):(x0 - 1)<=20:=by exact z0b (Nat.sub_le _ _) a0
theorem akQ {x0:Nat} (a0:1 < x0):1<=(x0 - 1):=by exact Nat.le_sub_one_of_lt a0
theorem akR {x0:Nat} (a0:(1:Nat)<=x0):((x0:Int) - (1:Int))=(((x0 - (1:Nat)):Nat):Int):=by exact (Int.ofNat_sub a0).symm
theorem akS {x0:Nat} (a0:(0:Int) > ((x0:Int) - (1:Int))):(0:Int)=(((x0 - (1:Nat)):Nat):Int):=by (rw[Nat.sub_eq_zero_of_le (Nat.le_of_lt_succ (Int.ofNat_lt.mp (Int.lt_of_sub_neg a0 |> λ h=>Int.lt_trans h (by decide))))];rfl)
theorem akT {x0:Nat} (a0:¬((0:Int) > ((x0:Int) - (1:Int)))):((x0:Int) - (1:Int))=(((x0 - (1:Nat)):Nat):Int):=by exact (Int.ofNat_sub (Int.ofNat_le.mp (Int.le_of_sub_nonneg (Int.not_lt.mp a0)))).symm
theorem akU {x0 x1:Nat} (a0:(x0:Int) < (((x1+(1:Nat)):Nat):Int)):(x0:Int)=(((min (x1+(1:Nat)) x0):Nat):Int):=by (rw[Nat.min_eq_right (z0e (Int.ofNat_lt.mp a0))])
theorem akV {x0 x1:Nat} (a0:¬((x1:Int) < (((x0+(1:Nat)):Nat):Int))):(((x0+(1:Nat)):Nat):Int)=(((min (x0+(1:Nat)) x1):Nat):Int):=by (rw[Nat.min_eq_left (Int.ofNat_le.mp (Int.not_lt.mp a0))])
theorem ago {x0 x1:Nat} (a0:1<=x1):(min (x0+1) (x1 - 1)) < x1:=by exact z0c (Nat.min_le_right _ _) (Nat.sub_lt a0 Nat.zero_lt_one)
theorem akW {x0 x1:Nat} (a0:(x0+(x1+1))<=1000):x0 < 1000000:=by exact z0c (z0b (Nat.le_add_right _ _) a0) (by decide)
theorem aaF {x0 x1:Nat} (a0:(x0+(x1+1))<=1000):((x0+1)+x1)<=1000:=by exact z0b (z0f (Nat.succ_add _ _)) a0
theorem akX {x0:Nat} (a0:x0<=20):(0+x0)<=1000:=by (rw[Nat.zero_add];exact z0b a0 (by decide))
theorem akY {x0 x1:Nat} (a0:x1<=(x0+(1:Nat))):(((x0:Int) - (x1:Int))+(1:Int))=((((x0+(1:Nat)) - x1):Nat):Int):=by (rw[Int.ofNat_sub a0,Int.natCast_add,Int.sub_eq_add_neg,Int.sub_eq_add_neg,Int.add_right_comm];rfl)
theorem akZ {x0 x1:Nat} (a0:x0<=(x1+1)):(((x0+1) - x1)=0)\/((((x0+1) - x1)=1)\/(((x0+1) - x1)=2)):=by (have h:(x0+1) - x1<=2:=Nat.sub_le_iff_le_add.mpr (by rw[Nat.add_comm 2];exact Nat.succ_le_succ a0);revert h;generalize (x0+1) - x1=n;intro h;rcases n with _ |_ |_ |n;exact .inl rfl;exact .inr (.inl rfl);exact .inr (.inr rfl);exact absurd h (Nat.not_le.mpr (Nat.le_add_left 3 n)))
theorem ak0 {x0 x1:Nat}:((min (x0+2) x1) - (x0 - 1))<=3:=by exact z0b (Nat.sub_le_sub_right (Nat.min_le_left _ _) _) (Nat.sub_le_of_le_add (by rw[Nat.add_comm 3];exact Nat.succ_le_succ (Nat.succ_le_succ (Nat.le_succ_of_pred_le (z0g _)))))
theorem agp {x0 x1:Nat} (a0:x0<=1000) (a1:x1<=1):(x0+x1)<=1000000:=by exact z0b (Nat.add_le_add a0 a1) (by decide)
theorem SX {x0:Nat} (a0:x0<=1):x0<=1000000:=by exact z0b a0 (by decide)
theorem agq {x0 x1 x2:Nat} (a0:(x0+(x2+1))<=1000) (a1:x1<=1):((x0+x1)+x2)<=1000:=by exact z0b (by rw[Nat.add_assoc,Nat.add_comm x1];exact Nat.add_le_add_left (Nat.add_le_add_left a1 _) _) a0
theorem S5 {x0 x1:Nat} (a0:(x0+(x1+1))<=1000):x0<=1000:=by exact z0b (Nat.le_add_right _ _) a0
theorem ak1 {x0:Nat} (a0:x0<=3):x0<=1000:=by exact ((λ h=>z0b h (Nat.le_add_left _ _)) a0)
theorem ak2 {x0:Nat} (a0:x0<=100):(1+x0)<=1000000:=by exact z0b (Nat.add_le_add_left a0 1) (by decide)
theorem aaG {x0:Nat} (a0:x0<=1000):x0 < 1000000:=by exact z0c a0 (by decide)
theorem ak3 {x0:Nat}:(1:Int)<=((x0:Int)+(1:Int)):=by exact Int.le_add_of_nonneg_left (z0a _)
theorem ak4 {x0:Nat}:(Int.toNat ((-(1:Int))+(((x0+(1:Nat)):Nat):Int)))=x0:=by (rw[Int.natCast_add,Int.add_comm,Int.add_assoc];exact Int.toNat_natCast x0)
theorem ak5 {x0 x1 x2:Nat} (a0:x0<=1) (a1:x1<=x2):(x0+x1)<=(x2+1):=by (rw[Nat.add_comm];exact Nat.add_le_add a1 a0)
theorem ak6 {x0 x1:Nat} (a0:x0<=x1) (a1:x1<=3):x0 < 64:=by exact z0c (z0b a0 a1) (by decide)
theorem agr {x0 x1:Nat} (a0:(x0:Int)=(x1:Int)):x0=x1:=by exact Int.ofNat.inj a0
theorem ak7 {x0:Nat}:(((((x0+(1:Nat)):Nat):Int) - (1:Int)) - ((0:Nat):Int))=(x0:Int):=by simp
theorem ak8 {x0 x1:Nat}:(((((x0+(1:Nat)):Nat):Int) - (1:Int)) - (((x1+(1:Nat)):Nat):Int))=(((x0:Int) - (1:Int)) - (x1:Int)):=by (rw[Int.natCast_add,Int.natCast_add];show ((x0:Int)+1 - 1) - (x1+1)=_;rw[Int.add_sub_cancel,Int.sub_sub,Int.add_comm])
theorem ak9 {x0 x1 x2:Nat} (a0:(x2+1) < x1) (a1:x0=((x1 - 1) - (x2+1))):(x0+1)=((x1 - 1) - x2):=by (subst a1;rw[Nat.sub_add_eq];exact Nat.sub_add_cancel (Nat.sub_pos_of_lt (Nat.lt_sub_of_add_lt a0)))
theorem aaH {x0:Nat} (a0:x0<=20):x0<=1000:=by exact z0b a0 (by decide)
theorem ala {x0 x1:Nat} (a0:x0 < x1) (a1:x1<=20):x0<=100:=by exact z0b (z0e a0) (z0b a1 (by decide))
theorem alb {x0 x1 x2:Nat} (a0:x0=((x1 - 1) - x2)) (a1:x2 < x1) (a2:x2≠0):(x0+1) < x1:=by (subst a0;rw[<-Nat.sub_add_eq,Nat.add_comm 1,Nat.sub_add_eq];exact z0c (z0f (Nat.sub_add_cancel (Nat.sub_pos_of_lt a1))) (Nat.sub_lt (Nat.zero_lt_of_lt a1) (Nat.pos_of_ne_zero a2)))
theorem alc {x0 x1:Nat} (a0:x0 < x1) (a1:x1<=20):x0 < 1000000:=by exact z0d a0 (z0b a1 (by decide))
theorem ald {x0 x1 x2:Nat} (a0:x0=((x1 - 1) - x2)) (a1:x2 < x1):x0 < x1:=by (subst a0;exact z0c (Nat.sub_le _ _) (Nat.sub_lt (Nat.zero_lt_of_lt a1) Nat.zero_lt_one))
theorem ale {x0 x1 x2:Nat} (a0:(x2+(x0+1))=x1):x0=((x1 - 1) - x2):=by (subst a0;simp)
theorem alf {x0 x1 x2:Nat} (a0:(x0+(x2+1))=x1):x0 < x1:=by exact a0▸Nat.lt_add_of_pos_right (Nat.succ_pos _)
theorem alg {x0 x1 x2:Nat} (a0:(x0+(x1+1))=x2):((x0+1)+x1)=x2:=by exact (Nat.succ_add _ _).trans a0
theorem alh {x0:Nat} (a0:x0<=(20:Nat)):((0:Int)<=(x0:Int))/\((x0:Int)<=(1000:Int)):=by exact⟨z0a _,Int.ofNat_le.mpr (z0b a0 (by decide))⟩
theorem ali {x0 x1:Nat} (a0:x1 < x0):((x0 - 1) - x1) < x0:=by exact z0c (Nat.sub_le _ _) (Nat.sub_lt (Nat.zero_lt_of_lt a0) (Nat.zero_lt_one))
theorem alj {x0 x1:Nat} (a0:(x1+1) < x0):((x0 - 1) - x1)=(((x0 - 1) - (x1+1))+1):=by (rw[Nat.sub_add_eq];exact (Nat.sub_add_cancel (Nat.sub_pos_of_lt (Nat.lt_sub_of_add_lt a0))).symm)
theorem alk {x0:Int}:((0:Int) - x0)=(-(x0+(0:Int))):=by (rw[Int.add_zero,Int.zero_sub])
theorem alm {x0 x1 x2:Int}:((-(x0+x1)) - x2)=(-(x2+(x0+x1))):=by (rw[Int.sub_eq_add_neg,<-Int.neg_add,Int.add_comm])
theorem JT {x0:Nat} (a0:1<=x0):x0=((x0 - 1)+1):=by exact Eq.symm (Nat.sub_add_cancel a0)
theorem aln {x0 x1:Nat} (a0:x0<=(x1+0)) (a1:x1<=x0):x0=x1:=by exact Nat.le_antisymm a0 a1
theorem alo {x0 x1 x2 x3:Nat} (a0:x2 < (x3+0)) (a1:x3<=x2):(x0<=(x1+1))/\(x1<=(x0+1)):=by exact absurd a0 (Nat.not_lt.mpr a1)
theorem alp {x0 x1 x2:Nat} (a0:x0<=(x1+(x2+1))):x0<=((x1+1)+x2):=by exact z0b a0 (z0f (Nat.succ_add _ _).symm)
theorem ags {x0 x1:Nat} (a0:x0<=x1) (a1:¬(x1=x0)):(x0+1)<=x1:=by exact z0h a0 λ h=>a1 h.symm
theorem alq {x0 x1:Nat}:x0 < (x0+(x1+1)):=by exact Nat.lt_add_of_pos_right (Nat.succ_pos _)
theorem alr {x0 x1 x2:Nat} (a0:x0 < ((x1+1)+x2)):x0 < (x1+(x2+1)):=by exact z0d a0 (z0f (Nat.succ_add _ _))
theorem agt {x0 x1:Nat} (a0:x0 < (x1+1)):x0<=(0+x1):=by exact z0b (Nat.le_of_lt_succ a0) (z0f (Nat.zero_add _).symm)
theorem als {x0 x1:Nat} (a0:(x0+1) < (x1+1)):x0 < (0+x1):=by exact (λ h=>z0d h (Nat.le_add_left _ _)) (Nat.lt_of_succ_lt_succ a0)
theorem alu {x0 x1:Nat} (a0:x0 < (0+x1)):(x0+1) < (x1+1):=by exact Nat.succ_lt_succ (Nat.zero_add x1▸a0)
theorem agu {x0 x1:Nat} (a0:x0<=(0+x1)):x0 < (x1+1):=by exact Nat.lt_succ_of_le (Nat.zero_add x1▸a0)
theorem alv {x0:Nat}:((x0 - 1) - (x0 - 1))=0:=by exact Nat.sub_self _
theorem agv {x0:Nat}:((x0+1) - x0)=1:=by simp
theorem alw {x0 x1:Nat} (a0:x0<=x1) (a1:x1<=20):x0 < 64:=by exact z0c (z0b a0 a1) (by decide)
theorem alx {x0:Nat}:(((x0+(1:Nat)):Nat):Int)=((1:Int)+(x0:Int)):=by (rw[Int.natCast_add,Int.add_comm];rfl)
theorem aly {x0:Nat}:(x0:Int)=((0:Int)+(x0:Int)):=by exact (Int.zero_add _).symm
theorem aaI {x0:Int} (a0:(0:Int)<=x0):(0:Int)<=((1:Int)+x0):=by exact Int.add_nonneg (by decide) a0
theorem alz {x0:Int} (a0:(0:Int)<=x0):(0:Int)<=((0:Int)+x0):=by exact Int.add_nonneg (by decide) a0
theorem alA {x0:Int} (a0:((1:Int)+x0)=(0:Int)) (a1:(0:Int)<=x0):False:=by exact absurd a0 (Int.ne_of_gt (Int.add_pos_of_pos_of_nonneg Int.zero_lt_one a1))
theorem alB:((0:Int)<=(0:Int))/\((0:Int)<=(2:Int)):=by decide
theorem alC {x0 x1 x2:Nat} (a0:((x1+1)+x2)=x0):¬(x0=x1):=by (subst a0;exact Nat.ne_of_gt (z0d (Nat.lt_succ_self _) (Nat.le_add_right _ _)))
theorem alD {x0 x1 x2:Nat} (a0:x0 < (min x1 x2)):¬(x0=x1):=by exact Nat.ne_of_lt (z0d a0 (Nat.min_le_left _ _))
theorem alE {x0 x1:Nat} (a0:¬(x0=x1)):¬((x0:Int)=(x1:Int)):=by exact λ h=>a0 (Int.ofNat.inj h)
theorem alF {x0 x1:Nat} (a0:x0<=1) (a1:x1<=1):(max x0 x1)<=1:=by exact Nat.max_le.mpr ⟨a0,a1⟩
theorem agw {x0:Nat} (a0:x0<=1):(x0+1)<=40:=by exact z0b (Nat.succ_le_succ a0) (by decide)
theorem alG {x0:Nat} (a0:x0=(1:Nat)):(x0:Int)=(1:Int):=by (subst a0;rfl)
theorem alH {x0:Nat} (a0:(x0:Int)=(1:Int)):x0=(1:Nat):=by exact Int.ofNat.inj a0
theorem bB (h:True:=by rfl):True:=trivial
theorem dM (h:True:=by decide):True:=trivial
theorem ug (h:True:=by first |exact Or.inl rfl |exact Or.inr rfl):True:=trivial
theorem uh (h:True:=by first |exact .inl rfl |exact .inr rfl):True:=trivial
theorem ZL (h:True:=by intro Z;rfl):True:=trivial
theorem ZM (h:True:=by first |exact Or.inl rfl |exact Or.inr (Or.inl rfl) |exact Or.inr (Or.inr rfl)):True:=trivial
theorem ap6 (h:True:=by first |exact .inl rfl |exact .inr rfl |assumption):True:=trivial
theorem ap7 (h:True:=by exact Nat.le_of_ble_eq_true rfl):True:=trivial
theorem ap8 (h:True:=by with_unfolding_all rfl):True:=trivial
theorem ap9 (h:True:=by exact nomark _):True:=trivial
theorem aiC (h:True:=by exact λ Z Z=>rfl):True:=trivial
theorem alI {x0 x1:Nat} (a0:x0<=x1) (a1:x1 < ((2:Nat) ^ (63:Nat))):¬((x0:Int)>=((2:Int) ^ (63:Nat))):=by exact Int.not_le.mpr (Int.lt_of_lt_of_le (Int.ofNat_lt.mpr (z0c a0 a1)) (by decide:((2 ^ 63:Nat):Int)<=2 ^ 63))
theorem agx {x1 x2:Nat} {x0:Int} (a0:x0 < (x1:Int)) (a1:x1<=x2) (a2:x2 < ((2:Nat) ^ (63:Nat))):x0 < ((2:Int) ^ (63:Nat)):=by exact Int.lt_trans a0 (Int.lt_of_lt_of_le (Int.ofNat_lt.mpr (z0c a1 a2)) (by decide:((2 ^ 63:Nat):Int)<=2 ^ 63))
theorem agy {x1 x2:Nat} {x0:Int} (a0:(-(x1:Int))<=x0) (a1:x1<=x2) (a2:x2 < ((2:Nat) ^ (63:Nat))):(-((2:Int) ^ (63:Nat)))<=x0:=by exact Int.le_trans (Int.neg_le_neg (Int.le_trans (Int.ofNat_le.mpr (z0e (z0c a1 a2))) (by decide:((2 ^ 63:Nat):Int)<=2 ^ 63))) a0
theorem alJ {x1 x2:Nat} {x0:Int} (a0:(-(x1:Int))<=x0) (a1:x1<=x2) (a2:x2 < ((2:Nat) ^ (63:Nat))):¬(x0 < (-((2:Int) ^ (63:Nat)))):=by exact Int.not_lt.mpr (Int.le_trans (Int.neg_le_neg (Int.le_trans (Int.ofNat_le.mpr (z0e (z0c a1 a2))) (by decide:((2 ^ 63:Nat):Int)<=2 ^ 63))) a0)
theorem alK {x1 x2:Nat} {x0:Int} (a0:x0 < (x1:Int)) (a1:x1<=x2) (a2:x2 < ((2:Nat) ^ (63:Nat))):¬(x0>=((2:Int) ^ (63:Nat))):=by exact Int.not_le.mpr (Int.lt_trans a0 (Int.lt_of_lt_of_le (Int.ofNat_lt.mpr (z0c a1 a2)) (by decide:((2 ^ 63:Nat):Int)<=2 ^ 63)))
theorem alL {x0:Int} (a0:(1:Int)<=x0) (a1:x0 < ((2:Int) ^ (63:Nat))):((-(9223372036854775808:Int))<=x0)/\(x0 < (9223372036854775808:Int)):=by exact⟨Int.le_trans (by decide) a0,Int.lt_of_lt_of_le a1 (by decide)⟩
theorem alM {x0 x1:Nat} (a0:x0<=x1) (a1:x1<=((((2:Nat) ^ (63:Nat)) - (1:Nat)) / (8:Nat))):¬((x0:Int) > ((((2:Int) ^ (63:Nat)) - (1:Int)) / (8:Int))):=by exact Int.not_lt.mpr (Int.le_trans (Int.ofNat_le.mpr (z0b a0 a1)) (by decide))
theorem alN {x0:Int} (a0:(0:Int)<=x0) (a1:x0<=(1000:Int)):(((((((-((2:Int) ^ (63:Nat)))<=(0:Int))/\((0:Int) < ((2:Int) ^ (63:Nat))))/\(((-((2:Int) ^ (63:Nat)))<=x0)/\(x0 < ((2:Int) ^ (63:Nat)))))/\(((-((2:Int) ^ (63:Nat)))<=(1:Int))/\((1:Int) < ((2:Int) ^ (63:Nat)))))/\(((-((2:Int) ^ (63:Nat)))<=(-(1:Int)))/\((-(1:Int)) < ((2:Int) ^ (63:Nat)))))/\(((-((2:Int) ^ (63:Nat)))<=((0:Int) - (1:Int)))/\(((0:Int) - (1:Int)) < ((2:Int) ^ (63:Nat)))))/\(((-((2:Int) ^ (63:Nat)))<=x0)/\(x0 < ((2:Int) ^ (63:Nat)))):=by (have p:(-(2 ^ 63):Int)<=x0:=Int.le_trans (by decide) a0;have q:x0 < 2 ^ 63:=Int.lt_of_le_of_lt a1 (by decide);exact⟨⟨⟨⟨⟨by decide,p,q⟩,by decide⟩,by decide⟩,by decide⟩,p,q⟩)
theorem agz {x0:Int} (a0:(-(1000:Int))<=x0):(-((2:Int) ^ (62:Nat)))<=x0:=by exact Int.le_trans (by decide) a0
theorem agA {x0:Int} (a0:x0<=(1000:Int)):x0 < ((2:Int) ^ (62:Nat)):=by exact Int.lt_of_le_of_lt a0 (by decide)
theorem alP {x0 x1:Int} (a0:(-(1000:Int))<=x1) (a1:x0<=(1000:Int)):(Int.toNat (x0 - x1))<=((2:Nat) ^ (24:Nat)):=by exact Int.toNat_le.mpr (Int.le_trans (Int.sub_le_sub a1 a0) (by decide))
theorem G3 {x0:Nat} (a0:x0<=20):x0 < (2 ^ 62):=by exact z0c a0 (by decide)
theorem alQ {x0 x1:Nat} (a0:x0=x1):¬(x0 < x1):=by (subst a0;exact Nat.lt_irrefl _)
theorem alR {x0 x1:Nat} (a0:(x0+2) < x1):x0 < x1:=by exact z0c (Nat.le_add_right _ _) a0
theorem alS {x0:Nat} (a0:¬((x0:Int) > (0:Int))):(0:Int)=(x0:Int):=by exact Int.le_antisymm (z0a _) (Int.not_lt.mp a0)
theorem alT {x0 x1:Nat} (a0:x1 < x0) (a1:¬((x1:Int) < (((x0 - (1:Nat)):Nat):Int))):(((x0 - (1:Nat)):Nat):Int)=(x1:Int):=by exact Int.le_antisymm (Int.not_lt.mp a1) (Int.ofNat_le.mpr (Nat.le_sub_one_of_lt a0))
theorem alU {x0 x1:Nat} (a0:x0 < x1) (a1:¬((((x1 - (1:Nat)):Nat):Int) > (0:Int))):(0:Int)=(x0:Int):=by omega
theorem alV {x0 x1:Nat} (a0:(((x0+(1:Nat)):Nat):Int) < (((x1 - (1:Nat)):Nat):Int)):(((x0+(1:Nat)):Nat):Int)=(((min (x0+(1:Nat)) (x1 - (1:Nat))):Nat):Int):=by (rw[Nat.min_eq_left (z0e (Int.ofNat_lt.mp a0))])
theorem alW {x0 x1:Nat} (a0:¬((((x0+(1:Nat)):Nat):Int) > (0:Int))):(0:Int)=(((min (x0+(1:Nat)) (x1 - (1:Nat))):Nat):Int):=by exact absurd (Int.ofNat_lt.mpr (Nat.succ_pos _)) a0
theorem alX {x0 x1:Nat} (a0:¬((((x1+(1:Nat)):Nat):Int) < (((x0 - (1:Nat)):Nat):Int))):(((x0 - (1:Nat)):Nat):Int)=(((min (x1+(1:Nat)) (x0 - (1:Nat))):Nat):Int):=by (rw[Nat.min_eq_right (Int.ofNat_le.mp (Int.not_lt.mp a0))])
theorem alY {x0 x1:Nat} (a0:¬((((x1 - (1:Nat)):Nat):Int) > (0:Int))):(0:Int)=(((min (x0+(1:Nat)) (x1 - (1:Nat))):Nat):Int):=by omega
theorem alZ {x0:Nat} (a0:((x0:Int) - (1:Int)) > (0:Int)):((x0:Int) - (1:Int))=(((x0 - (1:Nat)):Nat):Int):=by omega
theorem al0 {x0:Nat} (a0:¬(((x0:Int) - (1:Int)) > (0:Int))):(0:Int)=(((x0 - (1:Nat)):Nat):Int):=by omega
theorem al1 {x0 x1:Nat} (a0:x1 < x0) (a1:¬(((x1:Int) - (1:Int)) < (((x0 - (1:Nat)):Nat):Int))):(((x0 - (1:Nat)):Nat):Int)=(((x1 - (1:Nat)):Nat):Int):=by omega
theorem al2 {x0 x1:Nat} (a0:x0 < x1) (a1:¬(((x0:Int) - (1:Int)) < (((x1 - (1:Nat)):Nat):Int))):(0:Int)=(((x0 - (1:Nat)):Nat):Int):=by omega
theorem agB {x0 x1:Nat} (a0:x0 < x1):(min (x0+1) (x1 - 1)) < x1:=by exact z0c (Nat.min_le_right _ _) (Nat.sub_lt (Nat.zero_lt_of_lt a0) Nat.zero_lt_one)
theorem al3 {x0 x1:Nat} (a0:¬(x0=x1)):¬((x0:Int)=(x1:Int)):=by exact λ h=>a0 (Int.ofNat.inj h)
theorem al4 {x0 x1:Nat} (a0:x0 < x1):((x0+1) - x1)=0:=by exact Nat.sub_eq_zero_of_le a0
theorem al5 {x0 x1:Nat} (a0:x1 < x0):1<=x0:=by exact Nat.zero_lt_of_lt a0
theorem al6 {x0 x1:Nat} (a0:x0<=(x1+1)) (a1:¬(x0 < x1)) (a2:¬(x0=x1)):((x0+1) - x1)=2:=by omega
theorem al7 {x0 x1 x2:Nat} (a0:x2 < x1) (a1:¬(x2 < x0)) (a2:¬(x2=x0)):(min (x0+1) (x1 - 1))=(x0+1):=by omega
theorem al8 {x0 x1:Nat} (a0:¬(x0 < x1)):¬((x0:Int) < (x1:Int)):=by exact λ h=>a0 (Int.ofNat_lt.mp h)
theorem al9 {x0 x1 x2:Nat} (a0:x2 < x1) (a1:¬(x2 < x0)) (a2:¬(x2=x0)):(x0+1) < x1:=by exact z0c (z0h (Nat.not_lt.mp a1) λ h=>a2 h.symm) a0
theorem ama {x0:Nat}:(Int.toNat ((-(1:Int))+(x0:Int)))=(x0 - (1:Nat)):=by omega
theorem agC {x0:Nat} (a0:x0<=20):(1+(x0 - 1))<=1000000:=by exact z0b (Nat.add_le_add_left (z0b (Nat.sub_le _ _) a0) 1) (by decide)
theorem amb {x0 x1:Nat} (a0:(x0+1) < x1):x0 < (x1 - 1):=by exact Nat.lt_sub_of_add_lt a0
theorem amc {x0:Nat} (a0:¬(x0=0)):x0=((x0 - 1)+1):=by exact (Nat.sub_add_cancel (Nat.pos_of_ne_zero a0)).symm
theorem amd {x0 x1 x2:Int} (a0:x0=x2):(x0+x1)=(x2+x1):=by (rw[a0])
theorem ame {x0 x1 x2:Int} (a0:¬(x0=x2)):¬((x0+x1)=(x2+x1)):=by omega
theorem amf {x0 x1 x2:Int} (a0:x0=x2):(x0 - x1)=(x2 - x1):=by (rw[a0])
theorem amg {x0 x1 x2:Int} (a0:¬(x0=x2)):¬((x0 - x1)=(x2 - x1)):=by omega
theorem agD {x0:Nat}:(((x0+1) - 1) - ((x0+1) - 1))=0:=by exact Nat.sub_self _
theorem amh {x0 x1:Nat} (a0:(x0:Int)=(x1:Int)):x0=x1:=by exact Int.ofNat.inj a0
theorem ami {x0:Nat}:(x0<=(x0+1))/\(x0<=(x0+1)):=by exact⟨Nat.le_succ _,Nat.le_succ _⟩
theorem amj {x0 x1:Nat} (a0:x0 < ((x1+1)+1)) (a1:¬(x0=(x1+1))):x0 < (x1+1):=by exact z0h (Nat.le_of_lt_succ a0) a1
theorem amk {x0:Nat}:¬(x0=(x0+1)):=by exact Nat.ne_of_lt (Nat.lt_succ_self _)
theorem aml {x0 x1:Nat} (a0:((x0:Int)=((x1:Int) - (1:Int)))\/(((x0:Int)=(x1:Int))\/((x0:Int)=((x1:Int)+(1:Int))))):(x0<=(x1+(1:Nat)))/\(x1<=(x0+(1:Nat))):=by omega
theorem amm {x0 x1:Nat} (a0:¬(x0=x1)):¬((x0+1)=(x1+1)):=by exact λ h=>a0 (Nat.succ.inj h)
theorem amn {x0 x1:Nat} (a0:(x0+1) < ((x1+1)+1)):¬(x0=(x1+1)):=by exact Nat.ne_of_lt (Nat.lt_of_succ_lt_succ a0)
theorem amo {x0 x1:Nat} (a0:(x0+1) < ((x1+1)+1)) (a1:¬(x0=x1)):(x0+1) < (x1+1):=by exact Nat.succ_lt_succ (z0h (Nat.le_of_lt_succ (Nat.lt_of_succ_lt_succ a0)) a1)
theorem amq {x0 x1:Nat} (a0:(x0<=(x1+(1:Nat)))/\(x1<=(x0+(1:Nat)))):((x0:Int)=((x1:Int) - (1:Int)))\/(((x0:Int)=(x1:Int))\/((x0:Int)=((x1:Int)+(1:Int)))):=by omega
theorem amr {x0 x1 x2:Nat} (a0:x0<=3) (a1:x1<=(3*x2)):(x0+x1)<=(3*(x2+1)):=by (rw[Nat.mul_succ,Nat.add_comm];exact Nat.add_le_add a1 a0)
theorem ams {x0 x1 x2 x3:Nat} (a0:x0<=(3*x2)) (a1:x1=(3*x3)) (a2:x2<=x3):x0<=x1:=by (subst a1;exact z0b a0 (Nat.mul_le_mul_left 3 a2))
theorem amt {x0:Nat} (a0:x0<=3):(x0=0)\/((x0=1)\/((x0=2)\/(x0=3))):=by omega
theorem amu {x0 x1:Nat} (a0:x0<=x1) (a1:x1<=(4*27)):x0<=108:=by exact z0b a0 a1
theorem amv:¬((0:Int)<=(-(1:Int))):=by decide
theorem amw {x0:Nat}:(1:Int)<=((x0:Int)+(1:Int)):=by exact Int.le_add_of_nonneg_left (z0a _)
theorem amx {x0:Nat}:(Int.toNat ((-(1:Int))+((x0:Int)+(1:Int))))=x0:=by omega
theorem amy {x0 x1:Nat} (a0:x0<=1000) (a1:x1<=3):(x0+x1)<=1000000:=by exact z0b (Nat.add_le_add a0 a1) (by decide)
theorem amA {x0:Nat} (a0:x0 < 20):x0<=999998:=by exact z0b (z0e a0) (by decide)
theorem amB {x0 x1 x2:Nat} (a0:(x0+(3*(x2+1)))<=1000) (a1:x1<=3):((x0+x1)+(3*x2))<=1000:=by exact z0b (by rw[Nat.add_assoc,Nat.mul_succ,Nat.add_comm x1];exact Nat.add_le_add_left (Nat.add_le_add_left a1 _) _) a0
theorem amC {x0 x1:Nat} (a0:(x0+(3*(x1+1)))<=1000):x0<=1000:=by exact z0b (Nat.le_add_right _ _) a0
theorem amD {x0:Nat} (a0:x0 < 3):x0 < 20:=by exact Nat.lt_trans a0 (by decide)
theorem amE {x0:Nat} (a0:x0<=108):(3*x0)<=1000:=by exact z0b (Nat.mul_le_mul_left 3 a0) (by decide)
theorem amF {x0 x1:Nat} (a0:(x0+(x1+1))<=3):x0 < 3:=by exact z0d (Nat.lt_add_of_pos_right (Nat.succ_pos _)) a0
theorem amG {x0 x1:Nat} (a0:(x0+(x1+1))<=3):((x0+1)+x1)<=3:=by exact z0b (z0f (Nat.succ_add _ _)) a0
theorem amH {x0:Nat} (a0:x0<=4):(0+(x0 - 1))<=3:=by exact z0b (z0f (Nat.zero_add _)) (Nat.sub_le_sub_right a0 1)
theorem amI {x0:Nat} (a0:x0<=4):(x0 - 1) < (2 ^ 62):=by exact z0c (z0b (Nat.sub_le _ _) a0) (by decide)
theorem amJ {x0:Nat} (a0:x0<=4):x0 < (2 ^ 62):=by exact z0c a0 (by decide)
theorem amK {x0:Nat} (a0:x0<=4):x0<=1000000:=by exact z0b a0 (by decide)
theorem amL {x0:Nat} {x1:Int} (a0:((1:Int)+x1)=(x0:Int)) (a1:x1 < (4:Int)):x0<=(20:Nat):=by exact Int.ofNat_le.mp (a0▸Int.le_trans (Int.add_le_add_left (Int.le_of_lt a1) 1) (by decide))
theorem agE {x0:Nat} {x1:Int} (a0:((1:Int)+x1)=(x0:Int)) (a1:(0:Int)<=x1):(1:Nat)<=x0:=by exact Int.ofNat_le.mp (a0▸Int.le_add_of_nonneg_right a1)
theorem amM {x0:Nat} {x1:Int} (a0:((1:Int)+x1)=(x0:Int)) (a1:x1 < (3:Int)):x0<=(20:Nat):=by exact Int.ofNat_le.mp (a0▸Int.le_trans (Int.add_le_add_left (Int.le_of_lt a1) 1) (by decide))
theorem amN {x0:Nat} {x1:Int} (a0:((1:Int)+x1)=(x0:Int)) (a1:x1 < (4:Int)):x0<=(4:Nat):=by exact Int.ofNat_le.mp (a0▸Int.add_comm x1 1▸Int.add_one_le_of_lt a1)
theorem amO {x0:Nat} {x1:Int} (a0:((1:Int)+x1)=(x0:Int)) (a1:x1 < (3:Int)):x0<=(3:Nat):=by exact Int.ofNat_le.mp (a0▸Int.add_comm x1 1▸Int.add_one_le_of_lt a1)
theorem amP {x0:Nat} (a0:x0<=(20:Nat)):((-((2:Int) ^ (64:Nat))) < (x0:Int))/\((x0:Int) < ((2:Int) ^ (64:Nat))):=by exact⟨Int.lt_of_lt_of_le (by decide) (z0a _),Int.lt_of_le_of_lt (Int.ofNat_le.mpr a0) (by decide)⟩
theorem rT {x0 x1:Nat} (a0:(x1+1) < x0):x0=((x0 - 1)+1):=by exact (Nat.sub_add_cancel (z0b (Nat.le_add_left 1 _) (z0e a0))).symm
theorem amQ {x0:Nat} (a0:¬((x0+1)=1)):1 < (x0+1):=by exact Nat.succ_lt_succ (Nat.pos_of_ne_zero λ h=>a0 (congrArg Nat.succ h))
theorem S6 {x0 x1:Nat} (a0:(x0+(x1+1))<=900):x0<=1000:=by exact (λ h=>z0b h (Nat.le_add_left _ _)) (z0b (Nat.le_add_right _ _) a0)
theorem S7 {x0 x1:Nat} (a0:(x0+(x1+1))<=900):((x0+1)+x1)<=900:=by exact z0b (z0f (Nat.succ_add _ _)) a0
theorem S8 {x0:Nat} (a0:x0<=20):x0 < 64:=by exact z0c a0 (by decide)
theorem S9 {x0:Nat} (a0:x0<=20):x0<=900:=by exact z0b a0 (by decide)
theorem agF {x0 x1:Nat} (a0:x1<=20):(min x0 x1)<=999999:=by omega
theorem agG {x0 x1:Nat} (a0:x1<=20):(((min x0 x1)+1)+(x1 - (x0+1)))<=1000000:=by omega
theorem amR {x0:Nat} (a0:x0<=63):x0<=1000000:=by exact z0b a0 (by decide)
theorem amS:(0:Int)<=(63:Int):=by omega
theorem amT {x0:Nat} (a0:(1:Nat)<=x0):(0:Int) < (x0:Int):=by omega
theorem agH {x0 x1:Nat} {x2:Int} (a0:x2 < (x1:Int)) (a1:x2=(x0:Int)):x0 < x1:=by omega
namespace L2
open PySem PySem.Spec PyProof.Rows
noncomputable abbrev Key:=Sum Int Str
noncomputable def keyIs:Key->Value->Bool
 | .inl k,v=>Value.isInt k v
 | .inr x,v=>Value.isStrOf x v
noncomputable def keyH (w:World):Key->Int
 | .inl k=>hashInt k
 | .inr x=>hashStr w x
theorem keyIs_shape:∀{k:Key} {v:Value},keyIs k v=true->(∃i t,k=Sum.inl i/\v=Value.int i t)\/(∃x t,k=Sum.inr x/\v=Value.str x t)
 | .inl i,v,h=>by
  obtain⟨t,e⟩:=Value.isInt_shape (k:=i) (v:=v) h
  exact .inl ⟨i,t,rfl,e⟩
 | .inr x,v,h=>by
  obtain⟨t,e⟩:=Value.isStrOf_shape (x:=x) (v:=v) h
  exact .inr ⟨x,t,rfl,e⟩
theorem key_ll (a b:Int):decide ((Sum.inl a:Key)=Sum.inl b)=(a ==b):=by
 by_cases e:a=b
 ·subst e;simp
 ·have h:¬(Sum.inl a:Key)=Sum.inl b:=λ q=>e (Sum.inl.inj q)
  rw[decide_eq_false h]
  exact (beq_eq_false_iff_ne.mpr e).symm
theorem key_rr (a b:Str):decide ((Sum.inr a:Key)=Sum.inr b)=decide (a=b):=by
 by_cases e:a=b
 ·subst e;simp
 ·have h:¬(Sum.inr a:Key)=Sum.inr b:=λ q=>e (Sum.inr.inj q)
  rw[decide_eq_false h,decide_eq_false e]
theorem key_lr (a:Int) (b:Str):decide ((Sum.inl a:Key)=Sum.inr b)=false:=decide_eq_false (λ q=>nomatch q)
theorem key_rl (a:Str) (b:Int):decide ((Sum.inr a:Key)=Sum.inl b)=false:=decide_eq_false (λ q=>nomatch q)
noncomputable def mixKind (prog:Program) (w:World):PySem.KeyKind prog w Key where
 is:=keyIs
 hash:=keyH w
 inj :=λ v a b ha hb=>by
  rcases keyIs_shape ha with⟨i,t,rfl,rfl⟩ |⟨x,t,rfl,rfl⟩
  ·rcases keyIs_shape hb with⟨j,u,rfl,e⟩ |⟨y,u,rfl,e⟩
   ·injection e with e1 _;rw[e1]
   ·exact nomatch e
  ·rcases keyIs_shape hb with⟨j,u,rfl,e⟩ |⟨y,u,rfl,e⟩
   ·exact nomatch e
   ·injection e with e1 _;rw[e1]
 byValue:=λ k v h=>by
  rcases keyIs_shape h with⟨i,t,rfl,rfl⟩ |⟨x,t,rfl,rfl⟩ <;> rfl
 pyHash:=λ hv h=>by
  rcases keyIs_shape hv with⟨i,t,rfl,rfl⟩ |⟨x,t,rfl,rfl⟩
  ·exact wpAny_pyHash_int h
  ·exact wpAny_pyHash_str h
 eqBool:=λ hu hv h=>by
  rcases keyIs_shape hu with⟨i,t,rfl,rfl⟩ |⟨x,t,rfl,rfl⟩
  ·rcases keyIs_shape hv with⟨j,u,rfl,rfl⟩ |⟨y,u,rfl,rfl⟩
   ·rw[key_ll] at h;exact wpAny_eqBool_int h
   ·rw[key_lr] at h;exact SeqAt.EqAt.int_str i t y u _ _ _ _ h
  ·rcases keyIs_shape hv with⟨j,u,rfl,rfl⟩ |⟨y,u,rfl,rfl⟩
   ·rw[key_rl] at h;exact SeqAt.EqAt.str_int x t j u _ _ _ _ h
   ·rw[key_rr] at h;exact wpAny_eqBool_str h
 «strs»:=λ k x t v h=>by
  rcases keyIs_shape h with⟨i,u,rfl,e⟩ |⟨y,u,rfl,e⟩
  ·exact nomatch e
  ·injection e with e1 _
   subst e1
   cases v <;> rfl
end L2
namespace L2
open PySem PySem.Spec PyProof.Rows
set_option genInjectivity true in
inductive V where
 |non |bl (b:Bool) |int (i:Int) |str (x:Str) |byt (b:Array UInt8) |flt (b:UInt64) |ref (a:Addr) |ty (n:String)
 deriving DecidableEq
noncomputable def RelV:V->Value->Prop
 | .non,u=>u=Value.none
 | .bl b,u=>u=Value.bool b
 | .int i,u=>∃t,u=Value.int i t
 | .str x,u=>∃t,u=Value.str x t
 | .byt b,u=>∃t,u=Value.bytes b t
 | .flt b,u=>∃t,u=Value.float b t
 | .ref a,u=>u=Value.ref a
 | .ty n,u=>u=Value.type n
noncomputable abbrev Vals:List V->List Value->Prop:=Paired RelV
theorem Vals.length {xs:List V} {us:List Value} (r:Vals xs us):xs.length=us.length:=Paired.length r
theorem Vals.get:∀{xs:List V} {us:List Value} {i:Nat} {x:V},Vals xs us->xs[i]?=some x->∃u,us[i]?=some u/\RelV x u
 |_,_,_,_,.nil,e=>by simp at e
 |_,_,0,_,.cons r _,e=>by simp at e;subst e;exact⟨_,rfl,r⟩
 | _,_,i+1,x,.cons _ t,e=>by
  obtain⟨u,h1,h2⟩:=Vals.get (i:=i) (x:=x) t (by simpa using e)
  exact⟨u,by simpa using h1,h2⟩
theorem Vals.append:∀{xs ys:List V} {us ws:List Value},Vals xs us->Vals ys ws->Vals (xs++ys) (us++ws)
 :=by
 intro xs ys us ws h q
 induction h with
 |nil=>exact q
 |cons r t ih=>exact .cons r ih
theorem Vals.take:∀{xs:List V} {us:List Value} (n:Nat),Vals xs us->Vals (xs.take n) (us.take n)
 |_,_,0,_=> .nil
 |_,_,_+1,.nil=> .nil
 |_,_,n+1,.cons r t=> .cons r (Vals.take n t)
theorem Vals.drop:∀{xs:List V} {us:List Value} (n:Nat),Vals xs us->Vals (xs.drop n) (us.drop n)
 |_,_,0,r=>r
 |_,_,_+1,.nil=> .nil
 |_,_,n+1,.cons _ t=>Vals.drop n t
noncomputable def RelO:Option V->Option Value->Prop
 |some v,some u=>RelV v u
 |none,none=>True
 |_,_=>False
noncomputable def KV {κ:Type}:List (κ×V)->List (κ×Value)->Prop:=Paired λ (p:κ×V) (q:κ×Value)=>p.1=q.1/\RelV p.2 q.2
noncomputable def kV:Key->V
 | .inl i=> .int i
 | .inr x=> .str x
set_option genInjectivity true in
inductive HO where
 /-- a list -/
 |lst (xs:List V)
 /-- a tuple (never changes) -/
 |tup (xs:List V)
 /-- a dict whose keys are ints and texts;one whose keys are tuples of ints and texts (the empty one is both) -/
 |dK (kvs:List (Key×V)) |dT (kvs:List (List Key×V))
 /-- a set of ints:its members,its size -/
 |set (S:Int->Bool) (n:Nat)
 /-- an instance of the class at C,its dict at dx,its attributes -/
 |ins (C dx:Addr) (fs:List (Str×V))
 /-- the dict of the instance at x -/
 |own (x:Addr)
 /-- the dict of an exception -/
 |xd (fs:List (Str×V))
 /-- a bound method,f of x -/
 |met (f x:Addr)
 /-- a range object lo,lo+1,.. below hi -/
 |rng (lo hi:Int)
 /-- a thing that is known to the object (the script;a dict while a loop walks it):read,never written while it is so -/
 |frz (o:Obj) (u:HO)
 /-- a code object's table -/
 |tbl (ps:Array Value)
 /-- any other thing,by what is true of its one object (a def of one's own:SetO a S n:=HO.ext λ h=> ..) -/
 |ext (φ:Heap->Prop)
noncomputable abbrev Hp:=Addr->Option HO
noncomputable def upd (H:Hp) (a:Addr) (o:HO):Hp:=λ b=>if b=a then some o else H b
theorem upd_same {H:Hp} {a:Addr} {o:HO}:upd H a o a=some o:=by unfold upd;rw[if_pos rfl]
theorem upd_ne {H:Hp} {a b:Addr} {o:HO} (h:b≠a):upd H a o b=H b:=by unfold upd;rw[if_neg h]
theorem ne_of_none {H:Hp} {a b:Addr} {o:HO} (h:H a=some o) (h':H b=none):a≠b:=by
 intro e;subst e;rw[h] at h';injection h'
section
variable (P:Program) (w:World)
noncomputable def ObjOk (H:Hp) (h:Heap) (a:Addr):HO->Prop
 | .lst xs=>xs.length<=sizeLine/\∃(its:List Value) (n:Nat),Vals xs its/\h.get? a=some {cls:= .type "list",data:= .seq its.toArray n}
 | .tup xs=>xs.length<=sizeLine/\∃its:List Value,Vals xs its/\IsTup h a its.toArray
 | .dK kvs=>kvs.length<=sizeLine/\(a ==sysModules)=false/\∃vs,KV kvs vs/\h.DictOf (mixKind P w) a vs
 | .dT kvs=>kvs.length<=sizeLine/\(a ==sysModules)=false/\∃xs:List (List Key×Addr×Value),
   Paired (λ (p:List Key×V) (q:List Key×Addr×Value)=>p.1=q.1/\H q.2.1=some (.tup (p.1.map kV))/\RelV p.2 q.2.2) kvs xs/\
   ∃o es ep,h.get? a=some o/\o.ExactDict/\o.data= .dict es ep/\es.toList=xs.map (entryOfKey (tupleKind (mixKind P w)))/\(xs.map (·.1)).Nodup
 | .set S n=>h.SetOf (intKind P w) a S n
 | .ins C dx fs=>H dx=some (.own a)/\fs.length<=1000/\dx≠a/\h.get? a=some (PySem.W.instObj C dx)/\
   ∃mA,h.Ns1 dx mA/\(∀f,RelO (fs.lookup f) (mA f))/\PySem.Within mA (fs.map (·.1))
 | .own _=>∃o,h.get? a=some o
 | .xd fs=>∃mA,h.Ns1 a mA/\∀f,RelO (fs.lookup f) (mA f)
 | .rng lo hi=>∃t u v,h.get? a=some {cls:= .type "range",data:= .fields #[.int lo t,.int hi u,.int 1 v]}
 | .frz o u=>h.get? a=some o/\ObjOk H h a u
 | .tbl ps=>∃qs:Array Value,h.get? a=some (PySem.W.tabObj qs)/\TriplesOk qs.toList/\∀pos cv,codeAmong pos qs.toList=some cv->∃c oc vs q t tq,cv= .ref c/\H c=some (.frz oc (.own c))/\oc.data= .fields vs/\vs[1]?=some (.str q t)/\ps[0]?=some (.str q tq)
 | .met f x=>h.get? a=some (PySem.W.methodObj (.ref f) (.ref x))
 | .ext φ=>φ h/\(∃o,h.get? a=some o)/\∀h1 h2:Heap,φ h1->(∀o,h1.get? a=some o->h2.get? a=some o)->φ h2
noncomputable def HOk (H:Hp) (h:Heap):Prop:=∀a o,H a=some o->ObjOk P w H h a o
end
section
variable {P:Program} {w:World} {H H':Hp} {h h':Heap} {a:Addr} {o:HO}
theorem ObjOk.lt (x:ObjOk P w H h a o):a < h.objs.size:=by
 cases o with
 |lst xs=>obtain⟨_,_,_,_,e⟩:=x;exact Heap.lt_size e
 |tup xs=>obtain⟨_,_,_,p⟩:=x;exact p.lt
 |dK kvs=>obtain⟨_,_,_,_,o,_,_,e,_⟩:=x;exact Heap.lt_size e
 |dT kvs=>obtain⟨_,_,_,_,o,_,_,e,_⟩:=x;exact Heap.lt_size e
 |set S n=>obtain⟨o,_,_,_,e,_⟩:=x;exact Heap.lt_size e
 |ins C dx fs=>obtain⟨_,_,_,e,_⟩:=x;exact Heap.lt_size e
 |own y=>obtain⟨_,e⟩:=x;exact Heap.lt_size e
 |xd fs=>obtain⟨_,⟨_,_,_,e,_⟩,_⟩:=x;exact Heap.lt_size e
 |rng lo hi=>obtain⟨_,_,_,e⟩:=x;exact Heap.lt_size e
 |frz ob u=>obtain⟨e,_⟩:=x;exact Heap.lt_size e
 |tbl ps=>obtain⟨_,e,_⟩:=x;exact Heap.lt_size e
 |met f y=>exact Heap.lt_size (show h.get? a=some _ from x)
 |ext φ=>obtain⟨_,⟨_,e⟩,_⟩:=x;exact Heap.lt_size e
theorem Paired.mapP {α β:Type} {F G:α->β->Prop}:∀{l₁:List α} {l₂:List β},Paired F l₁ l₂->(∀a b,F a b->G a b)->Paired G l₁ l₂
 :=by
 intro l₁ l₂ h f
 induction h with
 |nil=>exact .nil
 |cons r t ih=>exact .cons (f _ _ r) ih
theorem ObjOk.stay (x:ObjOk P w H h a o) (k:∀b u,(b=a\/H b=some (.own a))->h.get? b=some u->h'.get? b=some u)
  (ho:∀b,H b=some (.own a)->H' b=some (.own a)) (ht:∀b xs,H b=some (.tup xs)->H' b=some (.tup xs)) (hz:∀b o u,(∃vs,o.data= .fields vs)->H b=some (.frz o u)->H' b=some (.frz o u)):ObjOk P w H' h' a o:=by
 induction o with
 |lst xs=>obtain⟨z,its,n,r,e⟩:=x;exact⟨z,its,n,r,k _ _ (.inl rfl) e⟩
 |tup xs=>obtain⟨z,its,r,ob,e,c⟩:=x;exact⟨z,its,r,ob,k _ _ (.inl rfl) e,c⟩
 |dK kvs=>obtain⟨z,y,vs,r,ob,es,ep,e,c⟩:=x;exact⟨z,y,vs,r,ob,es,ep,k _ _ (.inl rfl) e,c⟩
 | dT kvs=>
  refine bc λ zQ=>?_
  obtain⟨z,y,xs,r,ob,es,ep,e,c⟩:=x
  apply zQ;clear zQ
  exact⟨z,y,xs,Paired.mapP r λ p q z=>⟨z.1,ht _ _ z.2.1,z.2.2⟩,ob,es,ep,k _ _ (.inl rfl) e,c⟩
 |set S n=>obtain⟨ob,es,ep,t,e,c⟩:=x;exact⟨ob,es,ep,t,k _ _ (.inl rfl) e,c⟩
 | ins C dx fs=>
  refine bc λ zQ=>?_
  obtain⟨d,z,ne,e,mA,⟨od,es,ep,e2,c⟩,r⟩:=x
  apply zQ;clear zQ
  exact⟨ho _ d,z,ne,k _ _ (.inl rfl) e,mA,⟨od,es,ep,k _ _ (.inr d) e2,c⟩,r⟩
 |own y=>obtain⟨ob,e⟩:=x;exact⟨ob,k _ _ (.inl rfl) e⟩
 |xd fs=>obtain⟨mA,⟨od,es,ep,e,c⟩,r⟩:=x;exact⟨mA,⟨od,es,ep,k _ _ (.inl rfl) e,c⟩,r⟩
 |rng lo hi=>obtain⟨t,u,v,e⟩:=x;exact⟨t,u,v,k _ _ (.inl rfl) e⟩
 |frz ob u ih=>obtain⟨e,q⟩:=x;exact⟨k _ _ (.inl rfl) e,ih q⟩
 | tbl ps=>
  refine bc λ zQ=>?_
  obtain⟨qs,e,tr,al⟩:=x
  apply zQ;clear zQ
  exact⟨qs,k a _ (.inl rfl) e,tr,λ p cv z=>by
   refine bc λ zQ=>?_
   obtain⟨c,oc,vs,q,t,tq,e1,e2,e3,r⟩:=al p cv z
   apply zQ;clear zQ
   exact⟨c,oc,vs,q,t,tq,e1,hz _ _ _ ⟨vs,e3⟩ e2,e3,r⟩⟩
 | met f y=>
  have e:h.get? a=some (PySem.W.methodObj (.ref f) (.ref y)):=x
  show h'.get? a=some (PySem.W.methodObj (.ref f) (.ref y))
  exact k a _ (.inl rfl) e
 |ext φ=>obtain⟨p,⟨o,e⟩,st⟩:=x;exact⟨st _ _ p λ o q=>k _ _ (.inl rfl) q,⟨o,k _ _ (.inl rfl) e⟩,st⟩
theorem HOk.lt (x:HOk P w H h) (e:H a=some o):a < h.objs.size:=(x a o e).lt
theorem HOk.fresh (x:HOk P w H h) (e:h.objs.size<=a):H a=none:=by
 cases q:H a with
 |none=>rfl
 |some u=>exact absurd (z0d (x.lt q) e) (Nat.lt_irrefl _)
theorem HOk.kept (x:HOk P w H h) (k:∀b u,h.get? b=some u->h'.get? b=some u):HOk P w H h':=λ a o e=>
 (x a o e).stay (λ b u Z q=>k b u q) (λ Z q=>q) (λ Z Z q=>q) λ Z Z Z Z q=>q
theorem HOk.laid (x:HOk P w H h) (k:∀b u,h.get? b=some u->h'.get? b=some u) (hp:h.objs.size<=a) (new:ObjOk P w (upd H a o) h' a o):HOk P w (upd H a o) h':=λ b u e=>by
 have hn:=x.fresh hp
 by_cases hb:b=a
 ·subst hb;rw[upd_same] at e;(injection e with aH;subst aH);exact new
 ·rw[upd_ne hb] at e
  exact (x b u e).stay (λ c v Z q=>k c v q) (λ c q=>by rw[upd_ne (ne_of_none q hn)];exact q) (λ c xs q=>by rw[upd_ne (ne_of_none q hn)];exact q) λ c Z Z Z q=>by rw[upd_ne (ne_of_none q hn)];exact q
end
noncomputable def Rd (H:Hp) (a:Addr) (u:HO):Prop:=H a=some u\/∃o,H a=some (.frz o u)
theorem Rd.ok {P:Program} {w:World} {H:Hp} {h:Heap} {a:Addr} {u:HO} (r:Rd H a u) (x:HOk P w H h):ObjOk P w H h a u:=by
 rcases r with r |⟨o,r⟩
 ·exact x a u r
 ·obtain⟨_,q⟩:=x a _ r
  exact q
noncomputable def Mut:Option HO->Prop
 |some (.lst _)=>True
 |some (.dK _)=>True
 |some (.dT _)=>True
 |some (.set _ _)=>True
 |some (.ins _ _ _)=>True
 |some (.ext _)=>True
 |_=>False
section
variable {P:Program} {w:World} {H:Hp} {h h':Heap} {x e:Addr} {o':HO}
theorem HOk.write (ok:HOk P w H h) (mu:Mut (H x)) (he:e=x\/H e=some (.own x)) (k:∀b u,b≠e->h.get? b=some u->h'.get? b=some u) (heo:∃u,h'.get? e=some u)
  (new:ObjOk P w (upd H x o') h' x o'):HOk P w (upd H x o') h':=λ b u q=>by
 have nown:∀c y,H c=some (.own y)->c≠x:=λ c y r z=>by subst z;rw[r] at mu;exact mu
 have ntup:∀c xs,H c=some (.tup xs)->c≠x:=λ c xs r z=>by subst z;rw[r] at mu;exact mu
 by_cases hb:b=x
 ·subst hb;rw[upd_same] at q;(injection q with aH;subst aH);exact new
 ·rw [upd_ne hb] at q
  by_cases hbe:b=e
  ·have q':H b=some (.own x):=by
    rcases he with z |z
    ·exact absurd (hbe.trans z) hb
    ·rw[hbe];exact z
   rw[q] at q';(injection q' with aH;subst aH)
   obtain⟨v,hv⟩:=heo
   exact⟨v,by rw[hbe];exact hv⟩
  ·refine (ok b u q).stay (λ c v hc r=>k c v ?_ r) (λ c r=>by rw[upd_ne (nown c b r)];exact r) (λ c xs r=>by rw[upd_ne (ntup c xs r)];exact r) λ c o1 u1 Z r=>by rw[upd_ne (λ z=>by rw[z] at r;rw[r] at mu;exact mu)];exact r
   rcases hc with rfl |hc
   ·exact hbe
   ·rintro rfl
    rcases he with z |z
    ·exact nown c b hc z
    ·rw[hc] at z;cases z;exact hb rfl
end
structure Un (fs ex:List Addr) (H H':Hp) (h h':Heap):Prop where
 keep:∀b o,h.get? b=some o->H b=none->b∉fs->b∉ex->h'.get? b=some o
 slot:∀b o,h.get? b=some o->H b=none->b∈fs->b∉ex->∃sl,h'.get? b=some {o with slots:=sl}
 free:∀b o,h.get? b=some o->H b=none->b∉ex->H' b=none
 there:∀b o,h.get? b=some o->b∉ex->∃o',h'.get? b=some o'
 tups:∀b xs,H b=some (.tup xs)->H' b=some (.tup xs)
 frzs:∀b o u,H b=some (.frz o u)->H' b=some (.frz o u)
 tbls:∀b ps,H b=some (.tbl ps)->∃more,H' b=some (.tbl (ps++more))
section
variable {fs fs' ex ex':List Addr} {H H1 H2:Hp} {h h1 h2 h':Heap} {a x e:Addr} {o:HO}
theorem Un.any (u:Un fs ex H H1 h h1) {b:Addr} {ob:Obj} (q:h.get? b=some ob) (n:H b=none) (hx:b∉ex):∃sl,h1.get? b=some {ob with slots:=sl}:=by
 by_cases hb:b∈fs
 ·exact u.slot b ob q n hb hx
 ·exact⟨ob.slots,u.keep b ob q n hb hx⟩
theorem Un.kept (k:∀b u,h.get? b=some u->h'.get? b=some u):Un fs ex H H h h':=
 ⟨λ b ob q Z Z Z=>k b ob q,λ b ob q Z Z Z=>⟨ob.slots,k b ob q⟩,λ Z Z Z n Z=>n,λ b ob q Z=>⟨ob,k b ob q⟩,λ Z Z q=>q,λ Z Z Z q=>q,λ Z ps q=>⟨#[],by rw[q];simp⟩⟩
theorem Un.refl:Un fs ex H H h h:=Un.kept λ Z Z q=>q
theorem Un.laid (k:∀b u,h.get? b=some u->h'.get? b=some u) (hp:h.objs.size<=a) (hn:H a=none):Un fs ex H (upd H a o) h h' where
 keep:=λ b u q Z Z Z=>k b u q
 slot:=λ b u q Z Z Z=>⟨u.slots,k b u q⟩
 free:=λ b u q n Z=>by rw[upd_ne (Nat.ne_of_lt (z0d (Heap.lt_size q) hp))];exact n
 there:=λ b u q Z=>⟨u,k b u q⟩
 tups:=λ b xs q=>by rw[upd_ne (ne_of_none q hn)];exact q
 frzs:=λ b u xs q=>by rw[upd_ne (ne_of_none q hn)];exact q
 tbls:=λ b ps q=>⟨#[],by rw[upd_ne (ne_of_none q hn),q];simp⟩
theorem Un.write (mu:Mut (H x)) (he:e=x\/H e=some (.own x)) (k:∀b u,b≠e->h.get? b=some u->h'.get? b=some u) (heo:∃u,h'.get? e=some u):Un fs ex H (upd H x o) h h':=by
 have hx:∀b,H b=none->b≠x:=λ b n z=>by subst z;rw[n] at mu;exact mu
 have hb:∀b,H b=none->b≠e:=λ b n z=>by
  subst z
  rcases he with r |r
  ·exact hx b n r
  ·rw[n] at r;injection r
 have hm:∀b u,H b=some u->¬Mut (some u)->b≠x:=λ b u q nm z=>by subst z;rw[q] at mu;exact nm mu
 refine⟨λ b u q n Z Z=>k b u (hb b n) q,λ b u q n Z Z=>⟨u.slots,k b u (hb b n) q⟩,λ b u q n Z=>by rw[upd_ne (hx b n)];exact n,λ b u q Z=>?_,
  λ b xs q=>by rw[upd_ne (hm b _ q λ z=>z)];exact q,λ b u xs q=>by rw[upd_ne (hm b _ q λ z=>z)];exact q,λ b ps q=>⟨#[],by rw[upd_ne (hm b _ q λ z=>z),q];simp⟩⟩
 by_cases hbe:b=e
 ·subst hbe;exact heo
 ·exact⟨u,k b u hbe q⟩
end
noncomputable def trk (h:Heap) (H:Hp):List Addr:=(List.range h.objs.size).filter λ a=>(H a).isSome
noncomputable def hidT (h:Heap) (H:Hp):Heap:=PySem.W.hideAll h (trk h H)
theorem hidT_size (h:Heap) (H:Hp):(hidT h H).objs.size=h.objs.size:=PySem.W.hideAll_size _ _
theorem hidT_get {h:Heap} {H:Hp} {b:Addr} {o:Obj} (e:h.get? b=some o) (n:H b=none):(hidT h H).get? b=some o:=
 PySem.W.hideAll_get _ e λ hm=>by
  have q:(H b).isSome=true:=(List.mem_filter.mp hm).2
  rw[n] at q;simp at q
theorem of_hidT {h:Heap} {H:Hp} {b:Addr} {o:Obj} (e:(hidT h H).get? b=some o):h.get? b=some o/\H b=none:=by
 have e':h.get? b=some o:=PySem.W.of_hideAll (trk h H) e
 refine⟨e',?_⟩
 cases q:H b with
 |none=>rfl
 | some x=>
  have hm:b∈trk h H:=List.mem_filter.mpr ⟨List.mem_range.mpr (Heap.lt_size e'),by simp[q]⟩
  have z:(hidT h H).get? b=none:=PySem.W.hideAll_none (trk h H) hm
  rw[z] at e;injection e
noncomputable def allNews (g h:Heap) (L:Addr):List (Addr×Obj):=(List.range h.objs.size).filterMap λ a=>if a=L\/(g.get? a).isSome=true then none else (h.get? a).map λ o=>(a,o)
noncomputable def rest (g h:Heap) (L d:Addr):List (Addr×Obj):=(allNews g h L).filter λ p=>decide (p.1≠d)
end L2
namespace L2
open PySem PySem.Spec PyProof.Rows
structure Mod (K:PySem.W.Frag) (mg:Str->Option Value) (base:Heap):Prop where
 kin:K.In base
 glob:base.Ns mainGlobals mg
 blt:∃mb,base.Ns builtinsNs mb/\∀x:Str,x≠"__name__"->mb x=bootBuiltins x
 nolimit:base.NoLimit
structure Cx where
 prog:Program
 w:World
 K:PySem.W.Frag
 mg:Str->Option Value
 base:Heap
 A:Around
 N:List Str
 s₀:Shared
 H₀:Hp
 env:Env
 outer:List Env
 stack:List Env
 ex:List Addr
 fn:Str->Bool
 calm:Bool
 pn:List (Addr×Obj)
 xe:Value->Shared->Prop
noncomputable def frs (l:List Env):List Addr:=l.filterMap (·.frame)
noncomputable abbrev Cx.fs (X:Cx):List Addr:=frs X.outer
noncomputable def Vis (sc:Scope) (x:Str):Prop:=sc.names.lookup x=some .local\/sc.names.lookup x=some .cell\/sc.names.lookup x=some .free
noncomputable def Loc (sc:Scope) (x:Str):Prop:=sc.names.lookup x=some .local\/sc.names.lookup x=some .cell
noncomputable def Look (env:Env) (h:Heap) (m:Str->Option Value) (x:Str) (u:Value):Prop:=
 (env.kindOf x=some .local/\m x=some u)\/((env.kindOf x=some .cell\/env.kindOf x=some .free)/\∃c,env.cells.lookup x=some c/\h.IsCell c (some u))
structure Cx.Ok (X:Cx):Prop where
 mod:Mod X.K X.mg X.base
 kind:X.env.scope.kind= .function
 glob:X.env.globals=mainGlobals
 blt:X.env.builtins=builtinsNs
 above:X.s₀.heap.objs.size<=X.env.locals
 inj:∀x y c,X.env.cells.lookup x=some c->X.env.cells.lookup y=some c->x=y
 has:∀x,(X.env.kindOf x=some .cell\/X.env.kindOf x=some .free)->∃c,X.env.cells.lookup x=some c
 cab:∀x c,X.fn x=true->X.env.cells.lookup x=some c->X.s₀.heap.objs.size<=c
 hd:X.calm=true->X.A.handled=none
 frames:X.A.frames=some X.stack
 stk:X.stack=X.outer\/(X.stack=X.env::X.outer/\X.env.frame=some X.env.locals)
 exf:∀b∈X.ex,b≠X.env.locals/\∀x c,X.env.cells.lookup x=some c->c≠b
 bs:∀b o,X.base.get? b=some o->X.s₀.heap.get? b=some o/\X.H₀ b=none
 bsz:X.base.objs.size<=X.s₀.heap.objs.size
 noex:∀b o,X.base.get? b=some o->b∉X.ex
 exfs:∀b∈X.ex,b∉X.fs
 funs:X.s₀.heap.FunFrames X.base X.outer
 frf:∀b∈X.fs,X.H₀ b=none
structure Inv (X:Cx) (pins:List (Addr×Obj)) (σ:List (Option V)) (H:Hp) (s:Shared):Prop where
 ok:X.Ok
 os:s.os=X.s₀.os
 bare:AllBare s.gens
 base:Un X.fs X.ex X.H₀ H X.s₀.heap s.heap
 loc:∃m,s.heap.Ns X.env.locals m/\∀(i:Nat) (x:Str) (v:V),X.N[i]?=some x->σ[i]?=some (some v)->Vis X.env.scope x->∃u,RelV v u/\Look X.env s.heap m x u
 cell:∀x c,X.env.cells.lookup x=some c->∃v,s.heap.IsCell c v
 free:H X.env.locals=none
 freeC:∀x c,X.env.cells.lookup x=some c->H c=none
 pin:∀p∈X.pn++pins,s.heap.get? p.1=some p.2/\H p.1=none/\p.1≠X.env.locals/\p.1∉X.fs/\∀v,p.2.data≠.cell v
 hok:HOk X.prog X.w H s.heap
 len:σ.length=X.N.length
section
variable {X:Cx} {pins:List (Addr×Obj)} {σ:List (Option V)} {H H':Hp} {s:Shared} {h':Heap}
theorem Cx.Ok.nofr (ok:X.Ok) {b:Addr} {o:Obj} (e:X.base.get? b=some o):b∉X.fs:=λ hb=>by
 have:=(ok.funs.mem hb).1
 rw[e] at this;injection this
theorem Inv.bs (I:Inv X pins σ H s):∀b o,X.base.get? b=some o->s.heap.get? b=some o/\H b=none:=λ b o e=>
 ⟨I.base.keep b o (I.ok.bs b o e).1 (I.ok.bs b o e).2 (I.ok.nofr e) (I.ok.noex b o e),I.base.free b o (I.ok.bs b o e).1 (I.ok.bs b o e).2 (I.ok.noex b o e)⟩
theorem Inv.bk (I:Inv X pins σ H s):∀b o,X.base.get? b=some o->s.heap.get? b=some o:=λ b o e=>(I.bs b o e).1
theorem Inv.mod (I:Inv X pins σ H s):Mod X.K X.mg X.base:=I.ok.mod
theorem Inv.kIn (I:Inv X pins σ H s):X.K.In s.heap:=I.ok.mod.kin.keeps I.bk
theorem Inv.lt (I:Inv X pins σ H s):X.env.locals < s.heap.objs.size:=let ⟨_,hn,_⟩:=I.loc;hn.lt
theorem Inv.sz (I:Inv X pins σ H s):X.s₀.heap.objs.size<=s.heap.objs.size:=z0b I.ok.above (z0e I.lt)
theorem Inv.nofs (I:Inv X pins σ H s) {a:Addr} (h:s.heap.objs.size<=a):a∉X.fs:=λ hb=>by
 obtain⟨_,o,ho,_⟩:=I.ok.funs.mem hb
 exact absurd (z0d (Heap.lt_size ho) (z0b I.sz h)) (Nat.lt_irrefl _)
theorem Inv.cne (I:Inv X pins σ H s):∀x c,X.env.cells.lookup x=some c->c≠X.env.locals:=λ x c e z=>by
 obtain⟨v,o,ho,hd⟩:=I.cell x c e
 obtain⟨m,⟨o',es,ep,ho',hd',_⟩,_⟩:=I.loc
 rw[z,ho'] at ho;cases ho;rw[hd'] at hd;injection hd
theorem Inv.funs (I:Inv X pins σ H s):s.heap.FunFrames X.base X.outer:=by
 have all:∀(l:List Env),(∀b∈frs l,b∈X.fs)->X.s₀.heap.FunFrames X.base l->s.heap.FunFrames X.base l:=by
  intro l
  induction l with
  |nil=>intro Z Z;trivial
  | cons env r ih=>
   intro hs hl
   obtain⟨hk,⟨L,o,hf,hn,ho,hd⟩,hr⟩:=hl
   have hL:L∈X.fs:=hs L (by unfold frs;rw[List.filterMap_cons,hf];exact List.mem_cons_self)
   obtain⟨sl,e⟩:=I.base.slot L o ho (I.ok.frf L hL) hL λ z=>I.ok.exfs L z hL
   exact⟨hk,⟨L,_,hf,hn,e,hd⟩,ih (λ b hb=>hs b (by unfold frs;rw[List.filterMap_cons,hf];exact List.mem_cons_of_mem _ hb)) hr⟩
 exact all X.outer (λ Z hb=>hb) I.ok.funs
theorem Inv.stack (I:Inv X pins σ H s):s.heap.FunFrames X.base X.stack:=by
 rcases I.ok.stk with e |⟨e,hf⟩
 ·rw[e];exact I.funs
 ·rw[e]
  obtain⟨m,hn,_⟩:=I.loc
  refine .cons (by rw[I.ok.kind];decide) hf hn ?_ I.funs
  exact Heap.get?_none_of_le (z0b I.ok.bsz I.ok.above)
theorem Inv.stkSub (I:Inv X pins σ H s):∀b∈frs X.stack,b∈X.env.locals::X.fs:=λ b hb=>by
 rcases I.ok.stk with e |⟨e,hf⟩
 ·rw[e] at hb;exact List.mem_cons_of_mem _ hb
 ·rw[e] at hb
  unfold frs at hb
  rw[List.filterMap_cons,hf] at hb
  exact hb
theorem Inv.stkFree (I:Inv X pins σ H s):∀b∈frs X.stack,H b=none:=λ b hb=>by
 rcases List.mem_cons.mp (I.stkSub b hb) with e |hb
 ·rw[e];exact I.free
 ·obtain⟨_,o,ho,_⟩:=I.ok.funs.mem hb
  exact I.base.free b o ho (I.ok.frf b hb) λ z=>I.ok.exfs b z hb
theorem Inv.step {g':Array GenState} {t':Nat} {d':Drawn} {ch:List Addr} (I:Inv X pins σ H s)
  (hch:∀b∈ch,(b∈X.ex\/X.s₀.heap.objs.size<=b)/\b≠X.env.locals/\(∀x c,X.env.cells.lookup x=some c->c≠b)/\∀p∈X.pn++pins,p.1≠b)
  (keep:∀b o,b≠X.env.locals->b∉X.fs->b∉ch->s.heap.get? b=some o->H b=none->h'.get? b=some o)
  (slot:∀b o,b≠X.env.locals->b∈X.fs->b∉ch->s.heap.get? b=some o->H b=none->∃sl,h'.get? b=some {o with slots:=sl}) (free:∀b o,b∉ch->s.heap.get? b=some o->H b=none->H' b=none)
  (there:∀b o,b∉ch->s.heap.get? b=some o->∃o',h'.get? b=some o')
  (tups:∀b xs,H b=some (.tup xs)->H' b=some (.tup xs)) (frzs:∀b o u,H b=some (.frz o u)->H' b=some (.frz o u)) (tbls:∀b ps,H b=some (.tbl ps)->∃more,H' b=some (.tbl (ps++more)))
  (ns:∀m,s.heap.Ns X.env.locals m->h'.Ns X.env.locals m) (hok:HOk X.prog X.w H' h') (hg:AllBare g'):
  Inv X pins σ H' {s with heap:=h',gens:=g',drawn:=d',toks:=t'}:=by
 have neL:∀b o,X.s₀.heap.get? b=some o->b≠X.env.locals:=λ b o e=>Nat.ne_of_lt (z0d (Heap.lt_size e) I.ok.above)
 have neC:∀b o,X.s₀.heap.get? b=some o->b∉X.ex->b∉ch:=λ b o e hx hb=>by
  rcases (hch b hb).1 with z |z
  ·exact hx z
  ·exact absurd (z0d (Heap.lt_size e) z) (Nat.lt_irrefl _)
 have cellK:∀x c,X.env.cells.lookup x=some c->∀v,s.heap.IsCell c v->h'.IsCell c v:=λ x c e v ⟨o,ho,hd⟩=>by
  have nch:c∉ch:=λ z=>(hch c z).2.2.1 x c e rfl
  by_cases hc:c∈X.fs
  ·obtain⟨sl,q⟩:=slot c o (I.cne x c e) hc nch ho (I.freeC x c e)
   exact⟨_,q,hd⟩
  ·exact⟨o,keep c o (I.cne x c e) hc nch ho (I.freeC x c e),hd⟩
 refine⟨I.ok,I.os,hg,⟨λ b o e n hb hx=>?_,λ b o e n hb hx=>?_,λ b o e n hx=>?_,λ b o e hx=>?_,λ b xs e=>tups b xs (I.base.tups b xs e),λ b o xs e=>frzs b o xs (I.base.frzs b o xs e),λ b ps e=>?_⟩,?_,λ x c e=>?_,?_,λ x c e=>?_,λ p hp=>?_,hok,I.len⟩
 ·exact keep b o (neL b o e) hb (neC b o e hx) (I.base.keep b o e n hb hx) (I.base.free b o e n hx)
 ·obtain⟨sl,e1⟩:=I.base.slot b o e n hb hx
  obtain⟨sl',e2⟩:=slot b _ (neL b o e) hb (neC b o e hx) e1 (I.base.free b o e n hx)
  exact⟨sl',e2⟩
 ·obtain⟨o',e1⟩:=I.base.there b o e hx
  exact free b o' (neC b o e hx) e1 (I.base.free b o e n hx)
 ·obtain⟨o',e1⟩:=I.base.there b o e hx
  exact there b o' (neC b o e hx) e1
 ·obtain⟨m1,e1⟩:=I.base.tbls b ps e
  obtain⟨m2,e2⟩:=tbls b _ e1
  exact⟨m1++m2,by rw[e2,Array.append_assoc]⟩
 ·obtain⟨m,hn,hl⟩:=I.loc
  refine⟨m,ns m hn,λ i x v e1 e2 e3=>?_⟩
  obtain⟨u,r,l⟩:=hl i x v e1 e2 e3
  refine⟨u,r,?_⟩
  rcases l with l |⟨k,c,e,z⟩
  ·exact .inl l
  ·exact .inr ⟨k,c,e,cellK x c e _ z⟩
 ·obtain⟨v,z⟩:=I.cell x c e
  exact⟨v,cellK x c e v z⟩
 ·obtain⟨m,⟨o,_,_,ho,_⟩,_⟩:=I.loc
  exact free _ o (λ z=>(hch _ z).2.1 rfl) ho I.free
 ·obtain⟨v,o,ho,hd⟩:=I.cell x c e
  exact free c o (λ z=>(hch c z).2.2.1 x c e rfl) ho (I.freeC x c e)
 ·obtain⟨e,n,ne,nf,d⟩:=I.pin p hp
  have nch:p.1∉ch:=λ z=>(hch p.1 z).2.2.2 p hp rfl
  exact⟨keep p.1 p.2 ne nf nch e n,free p.1 p.2 nch e n,ne,nf,d⟩
theorem Inv.un {t':Nat} (I:Inv X pins σ H s) (u:Un X.fs [] H H' s.heap h') (hok:HOk X.prog X.w H' h'):Inv X pins σ H' {s with heap:=h',toks:=t'}:=by
 obtain⟨m,⟨o,es,ep,ho,r⟩,_⟩:=id I.loc
 obtain⟨sl,hL⟩:=u.any ho I.free (by simp)
 exact I.step (g':=s.gens) (d':=s.drawn) (ch:=[]) (λ Z z=>nomatch z) (λ b o Z hb Z e n=>u.keep b o e n hb (by simp)) (λ b o Z hb Z e n=>u.slot b o e n hb (by simp)) (λ b o Z e n=>u.free b o e n (by simp)) (λ b o Z e=>u.there b o e (by simp)) u.tups u.frzs u.tbls (λ m' hm=>by
  obtain⟨o',es',ep',ho',r'⟩:=hm
  rw[ho] at ho';(injection ho' with aH;subst aH)
  exact⟨_,es',ep',hL,r'⟩) hok I.bare
theorem Inv.call {g':Array GenState} {t':Nat} {d':Drawn} {ch:List Addr} (I:Inv X pins σ H s) (u:Un (frs X.stack) ch H H' s.heap h') (hok:HOk X.prog X.w H' h') (hg:AllBare g')
  (hch:∀b∈ch,(b∈X.ex\/X.s₀.heap.objs.size<=b)/\b≠X.env.locals/\(∀x c,X.env.cells.lookup x=some c->c≠b)/\∀p∈X.pn++pins,p.1≠b):
  Inv X pins σ H' {s with heap:=h',gens:=g',drawn:=d',toks:=t'}:=by
 obtain⟨m,⟨o,es,ep,ho,r⟩,_⟩:=id I.loc
 obtain⟨sl,hL⟩:=u.any ho I.free λ z=>(hch _ z).2.1 rfl
 exact I.step (ch:=ch) hch (λ b o hL hb hc e n=>u.keep b o e n (λ z=>(List.mem_cons.mp (I.stkSub b z)).elim hL hb) hc) (λ b o Z Z hc e n=>u.any e n hc) (λ b o hc e n=>u.free b o e n hc) (λ b o hc e=>u.there b o e hc) u.tups u.frzs u.tbls (λ m' hm=>by
  obtain⟨o',es',ep',ho',r'⟩:=hm
  rw[ho] at ho';(injection ho' with aH;subst aH)
  exact⟨_,es',ep',hL,r'⟩) hok hg
theorem Inv.turned {t':Nat} {it:Addr} (I:Inv X pins σ H s) (k:∀b o,b≠it->s.heap.get? b=some o->h'.get? b=some o) (hn:H it=none) (hL:it≠X.env.locals)
  (h1:it∈X.ex\/X.s₀.heap.objs.size<=it) (h2:∀x c,X.env.cells.lookup x=some c->c≠it) (h3:∀p∈X.pn++pins,p.1≠it):Inv X pins σ H {s with heap:=h',toks:=t'}:=by
 have nit:∀b u,H b=some u->b≠it:=λ b u e z=>by rw[z,hn] at e;injection e
 refine I.step (g':=s.gens) (d':=s.drawn) (ch:=[it]) (λ b hb=>?_) (λ b o Z Z hc e Z=>k b o (λ z=>hc (by simp[z])) e) (λ b o Z Z hc e Z=>⟨o.slots,k b o (λ z=>hc (by simp[z])) e⟩) (λ Z Z Z Z n=>n)
  (λ b o hc e=>⟨o,k b o (λ z=>hc (by simp[z])) e⟩) (λ Z Z e=>e) (λ Z Z Z e=>e) (λ b ps e=>⟨#[],by rw[e];simp⟩) (λ m hm=>?_) (λ b u e=>?_) I.bare
 ·have e:b=it:=by simpa using hb
  subst e
  exact⟨h1,hL,h2,h3⟩
 ·obtain⟨o,es,ep,ho,r⟩:=hm
  exact⟨o,es,ep,k _ o (Ne.symm hL) ho,r⟩
 ·refine (I.hok b u e).stay (λ c v hc q=>k c v ?_ q) (λ Z q=>q) (λ Z Z q=>q) λ Z Z Z Z q=>q
  rcases hc with z |z
  ·rw[z];exact nit b u e
  ·exact nit c _ z
theorem Inv.tok (I:Inv X pins σ H s) (t:Nat):Inv X pins σ H {s with toks:=t}:=I.un (h':=s.heap) (t':=t) Un.refl I.hok
theorem Inv.kept {t':Nat} (I:Inv X pins σ H s) (k:∀b u,s.heap.get? b=some u->h'.get? b=some u):Inv X pins σ H {s with heap:=h',toks:=t'}:=I.un (Un.kept k) (I.hok.kept k)
theorem Inv.laid {a:Addr} {o:HO} {t':Nat} (I:Inv X pins σ H s) (k:∀b u,s.heap.get? b=some u->h'.get? b=some u) (hp:s.heap.objs.size<=a) (new:ObjOk X.prog X.w (upd H a o) h' a o):
  Inv X pins σ (upd H a o) {s with heap:=h',toks:=t'}:=I.un (Un.laid k hp (I.hok.fresh hp)) (I.hok.laid k hp new)
theorem Inv.write {x e:Addr} {o:HO} {t':Nat} (I:Inv X pins σ H s) (mu:Mut (H x)) (he:e=x\/H e=some (.own x)) (k:∀b u,b≠e->s.heap.get? b=some u->h'.get? b=some u) (heo:∃u,h'.get? e=some u)
  (new:ObjOk X.prog X.w (upd H x o) h' x o):Inv X pins σ (upd H x o) {s with heap:=h',toks:=t'}:=I.un (Un.write mu he k heo) (I.hok.write mu he k heo new)
theorem Inv.pins_of {pins':List (Addr×Obj)} (I:Inv X pins σ H s) (h:∀p∈pins',s.heap.get? p.1=some p.2/\H p.1=none/\p.1≠X.env.locals/\p.1∉X.fs/\∀v,p.2.data≠.cell v):Inv X pins' σ H s:=
 ⟨I.ok,I.os,I.bare,I.base,I.loc,I.cell,I.free,I.freeC,λ p hp=>(List.mem_append.mp hp).elim (λ z=>I.pin p (List.mem_append_left _ z)) (h p),I.hok,I.len⟩
theorem nodup_ix {N:List Str} (hN:N.Nodup) {i j:Nat} {x:Str} (a:N[i]?=some x) (b:N[j]?=some x):i=j:=by
 obtain⟨h1,e1⟩:=List.getElem?_eq_some_iff.mp a
 obtain⟨h2,e2⟩:=List.getElem?_eq_some_iff.mp b
 exact (List.getElem_inj hN).mp (e1.trans e2.symm)
theorem store_ok2 {M:Model} {A:Around} {E:Value->Shared->Prop} {i:Nat} {x:Str} {v:V} {u:Value} {Q:Unit->Shared->Prop} (I:Inv X pins σ H s) (hN:X.N.Nodup) (hi:X.N[i]?=some x) (hx:Loc X.env.scope x) (r:RelV v u)
  (h:∀s',Inv X pins (σ.set i (some v)) H s'->(∃a,Heap.SameBut a s.heap s'.heap/\(a=X.env.locals\/X.env.cells.lookup x=some a))->Q () s') (hf:autoParam (X.fn x=true\/X.env.scope.names.lookup x=some .local) ap6._auto_1):wpAny M A (storeName X.env x u) Q E s:=by
 obtain⟨m,hn,hl⟩:=id I.loc
 have hcls:(X.env.scope.kind == .class || (X.env.scope.kind == .module && X.env.locals !=X.env.globals))=false:=by rw[I.ok.kind];rfl
 have hiσ:i < σ.length:=by rw[I.len];exact (List.getElem?_eq_some_iff.mp hi).1
 have cne:=I.cne
 have tracked:∀{a:Addr} {h':Heap},(∃o,s.heap.get? a=some o/\H a=none)->Heap.SameBut a s.heap h'->HOk X.prog X.w H h':=λ {a h'} ha hs b ob e=>by
  obtain⟨_,_,hfree⟩:=ha
  refine (I.hok b ob e).stay (λ c w' hc q=>(hs.2 c ?_).trans q) (λ Z q=>q) (λ Z Z q=>q) λ Z Z Z Z q=>q
  rintro rfl
  rcases hc with rfl |hc
  ·rw[hfree] at e;injection e
  ·rw[hfree] at hc;injection hc
 rcases hx with hk |hk
 ·refine wpAny_storeName_local hk hn (λ h' hn' hs=>?_) hcls
  obtain⟨oL,_,_,hoL,_⟩:=id hn
  refine h _ ⟨I.ok,I.os,I.bare,⟨λ b o e n hb hx=>?_,λ b o e n hb hx=>?_,I.base.free,λ b o e hx=>?_,I.base.tups,I.base.frzs,I.base.tbls⟩,⟨_,hn',λ j y v' e1 e2 e3=>?_⟩,λ y c e=>?_,I.free,I.freeC,λ p hp=>?_,tracked ⟨oL,hoL,I.free⟩ hs,by simpa using I.len⟩ ⟨_,hs,.inl rfl⟩
  ·exact (hs.2 b (Nat.ne_of_lt (z0d (Heap.lt_size e) I.ok.above))).trans (I.base.keep b o e n hb hx)
  ·obtain⟨sl,e1⟩:=I.base.slot b o e n hb hx
   exact⟨sl,(hs.2 b (Nat.ne_of_lt (z0d (Heap.lt_size e) I.ok.above))).trans e1⟩
  ·obtain⟨o',e1⟩:=I.base.there b o e hx
   exact⟨o',(hs.2 b (Nat.ne_of_lt (z0d (Heap.lt_size e) I.ok.above))).trans e1⟩
  ·by_cases hj:j=i
   ·subst hj
    rw[hi] at e1;(injection e1 with aH;subst aH)
    rw[List.getElem?_set_self hiσ] at e2
    (injection e2 with aH;injection aH with cV;subst cV)
    exact⟨u,r,.inl ⟨hk,by simp⟩⟩
   ·rw[List.getElem?_set_ne (Ne.symm hj)] at e2
    obtain⟨u',r',q⟩:=hl j y v' e1 e2 e3
    refine⟨u',r',?_⟩
    rcases q with⟨k,e⟩ |⟨k,c,e,z⟩
    ·refine .inl ⟨k,?_⟩
     have:y≠x:=λ e=>hj (nodup_ix hN e1 (e▸hi))
     simp[this,e]
    ·exact .inr ⟨k,c,e,z.sameBut hs (cne y c e)⟩
  ·obtain⟨w',z⟩:=I.cell y c e
   exact⟨w',z.sameBut hs (cne y c e)⟩
  ·obtain⟨e,n,ne,nf,d⟩:=I.pin p hp
   exact⟨(hs.2 p.1 ne).trans e,n,ne,nf,d⟩
 ·have hfn:X.fn x=true:=by
   rcases hf with z |z
   ·exact z
   ·rw[z] at hk;(injection hk with aH;injection aH)
  obtain⟨c,hc⟩:=I.ok.has x (.inl hk)
  obtain⟨w',z⟩:=I.cell x c hc
  refine wpAny_storeName_cell I.ok.kind hk hc z (λ h' hc' hs=>?_)
  obtain⟨oc,hoc,hocd⟩:=id z
  refine h {s with heap:=h'} ⟨I.ok,I.os,I.bare,⟨λ b o e n hb hx=>?_,λ b o e n hb hx=>?_,I.base.free,λ b o e hx=>?_,I.base.tups,I.base.frzs,I.base.tbls⟩,⟨m,hn.sameBut hs (Ne.symm (cne x c hc)),λ j y v' e1 e2 e3=>?_⟩,λ y c' e=>?_,I.free,I.freeC,λ p hp=>?_,tracked ⟨oc,hoc,I.freeC x c hc⟩ hs,by simpa using I.len⟩ ⟨c,hs,.inr hc⟩
  ·exact (hs.2 b (Nat.ne_of_lt (z0d (Heap.lt_size e) (I.ok.cab x c hfn hc)))).trans (I.base.keep b o e n hb hx)
  ·obtain⟨sl,e1⟩:=I.base.slot b o e n hb hx
   exact⟨sl,(hs.2 b (Nat.ne_of_lt (z0d (Heap.lt_size e) (I.ok.cab x c hfn hc)))).trans e1⟩
  ·obtain⟨o',e1⟩:=I.base.there b o e hx
   exact⟨o',(hs.2 b (Nat.ne_of_lt (z0d (Heap.lt_size e) (I.ok.cab x c hfn hc)))).trans e1⟩
  ·by_cases hj:j=i
   ·subst hj
    rw[hi] at e1;(injection e1 with aH;subst aH)
    rw[List.getElem?_set_self hiσ] at e2
    (injection e2 with aH;injection aH with cV;subst cV)
    exact⟨u,r,.inr ⟨.inl hk,c,hc,hc'⟩⟩
   ·rw[List.getElem?_set_ne (Ne.symm hj)] at e2
    obtain⟨u',r',q⟩:=hl j y v' e1 e2 e3
    refine⟨u',r',?_⟩
    rcases q with q |⟨k,c',e,z'⟩
    ·exact .inl q
    ·refine .inr ⟨k,c',e,z'.sameBut hs ?_⟩
     rintro rfl
     exact hj (nodup_ix hN e1 (I.ok.inj _ _ _ e hc▸hi))
  ·by_cases hcc:c'=c
   ·subst hcc;exact⟨_,hc'⟩
   ·obtain⟨w2,z2⟩:=I.cell y c' e
    exact⟨w2,z2.sameBut hs hcc⟩
  ·obtain⟨e,n,ne,nf,d⟩:=I.pin p hp
   refine⟨(hs.2 p.1 ?_).trans e,n,ne,nf,d⟩
   intro q
   rw[q,hoc] at e
   have q':oc=p.2:=Option.some.inj e
   exact d w' (by rw[<-q'];exact hocd)
theorem store_ok {M:Model} {A:Around} {E:Value->Shared->Prop} {i:Nat} {x:Str} {v:V} {u:Value} {Q:Unit->Shared->Prop} (I:Inv X pins σ H s) (hN:X.N.Nodup) (hi:X.N[i]?=some x) (hx:Loc X.env.scope x) (r:RelV v u)
  (h:∀s',Inv X pins (σ.set i (some v)) H s'->Q () s') (hf:autoParam (X.fn x=true\/X.env.scope.names.lookup x=some .local) ap6._auto_1):wpAny M A (storeName X.env x u) Q E s:=
 store_ok2 I hN hi hx r (λ s' I' Z=>h s' I') hf
theorem Inv.call' {s':Shared} {ch:List Addr} (I:Inv X pins σ H s) (ho:s'.os=s.os) (u:Un (frs X.stack) ch H H' s.heap s'.heap) (hok:HOk X.prog X.w H' s'.heap) (hg:AllBare s'.gens)
  (hch:∀b∈ch,(b∈X.ex\/X.s₀.heap.objs.size<=b)/\b≠X.env.locals/\(∀x c,X.env.cells.lookup x=some c->c≠b)/\∀p∈X.pn++pins,p.1≠b):Inv X pins σ H' s':=by
 obtain⟨h',g',d',t',o'⟩:=s'
 have e:o'=s.os:=ho
 subst e
 exact I.call (g':=g') (t':=t') (d':=d') u hok hg hch
end
noncomputable abbrev XK:=Value->Option Addr->Hp->Prop
noncomputable abbrev St:=List (Option V)
noncomputable abbrev VK:=V->Hp->Prop
noncomputable abbrev TE:=St->Hp->VK->Prop
noncomputable abbrev TT:=St->Hp->(Bool->Hp->Prop)->Prop
noncomputable abbrev TA:=St->Hp->(List V->Hp->Prop)->Prop
structure Ends where
 nx:St->Hp->Prop
 rt:VK
 bk:St->Hp->Prop:=λ Z Z=>False
 ct:St->Hp->Prop:=λ Z Z=>False
noncomputable abbrev TS:=Ends->St->Hp->Prop
inductive EP (X:Cx) (pins:List (Addr×Obj)) (σ:St) (Q:VK) (u:Value) (s':Shared):Prop
 |mk (v:V) (H':Hp) (I:Inv X pins σ H' s') (r:RelV v u) (q:Q v H'):EP X pins σ Q u s'
inductive TP (X:Cx) (pins:List (Addr×Obj)) (σ:St) (Q:Bool->Hp->Prop) (b:Bool) (s':Shared):Prop
 |mk (H':Hp) (I:Inv X pins σ H' s') (q:Q b H'):TP X pins σ Q b s'
inductive AP (X:Cx) (pins:List (Addr×Obj)) (σ:St) (Q:List V->Hp->Prop) (us:List Value) (s':Shared):Prop
 |mk (vs:List V) (H':Hp) (I:Inv X pins σ H' s') (r:Vals vs us) (q:Q vs H'):AP X pins σ Q us s'
inductive ZP (X:Cx) (pins:List (Addr×Obj)) (D:St->Hp->Prop) (s':Shared):Prop
 |mk (σ':St) (H':Hp) (I:Inv X pins σ' H' s') (d:D σ' H'):ZP X pins D s'
inductive SPr (X:Cx) (pins:List (Addr×Obj)) (D:V->Hp->Prop) (u:Value) (s':Shared):Prop
 |mk (v:V) (σ':St) (H':Hp) (I:Inv X pins σ' H' s') (r:RelV v u) (d:D v H'):SPr X pins D u s'
def SP (X:Cx) (pins:List (Addr×Obj)) (D:Ends) (f:Flow) (s':Shared):Prop:=
 match f with
 | .next=>ZP X pins D.nx s'
 | .brk=>ZP X pins D.bk s'
 | .cont=>ZP X pins D.ct s'
 | .ret u=>SPr X pins D.rt u s'
noncomputable def PE (X:Cx) (e:Expr) (t:TE):Prop:=
 ∀(pins:List (Addr×Obj)) (s:Shared) (σ:St) (H:Hp) (Q:VK),Inv X pins σ H s->t σ H Q->wpAny (model X.prog X.w) X.A (eval e X.env) (EP X pins σ Q) X.xe s
noncomputable def PT (X:Cx) (e:Expr) (t:TT):Prop:=
 ∀(pins:List (Addr×Obj)) (s:Shared) (σ:St) (H:Hp) (Q:Bool->Hp->Prop),Inv X pins σ H s->t σ H Q->wpAny (model X.prog X.w) X.A (isTrue e X.env (eval e X.env)) (TP X pins σ Q) X.xe s
noncomputable def PW (X:Cx) (e:Expr) (t:TT):Prop:=
 ∀(whole:Sem Value) (pins:List (Addr×Obj)) (s:Shared) (σ:St) (H:Hp) (Q:Bool->Hp->Prop),Inv X pins σ H s->t σ H Q->wpAny (model X.prog X.w) X.A (isTrue e X.env whole) (TP X pins σ Q) X.xe s
noncomputable def PA (X:Cx) (es:List Expr) (t:TA):Prop:=
 ∀(pos:Pos) (pins:List (Addr×Obj)) (s:Shared) (σ:St) (H:Hp) (Q:List V->Hp->Prop),Inv X pins σ H s->t σ H Q->wpAny (model X.prog X.w) X.A (spliced (backTo pos (starEach es X.env))) (AP X pins σ Q) X.xe s
noncomputable def PS (X:Cx) (st:Stmt) (t:TS):Prop:=
 ∀(pins:List (Addr×Obj)) (s:Shared) (σ:St) (H:Hp) (D:Ends),Inv X pins σ H s->t D σ H->wpAny (model X.prog X.w) X.A (exec st X.env) (SP X pins D) X.xe s
noncomputable def PSs (X:Cx) (st:List Stmt) (t:TS):Prop:=
 ∀(pins:List (Addr×Obj)) (s:Shared) (σ:St) (H:Hp) (D:Ends),Inv X pins σ H s->t D σ H->wpAny (model X.prog X.w) X.A (execs st X.env) (SP X pins D) X.xe s
theorem thn {α:Type} {t:Sem α} {Q Q':α->Shared->Prop} {M:Model} {A:Around} {E:Value->Shared->Prop} {s:Shared} (h:wpAny M A t Q E s) (hQ:∀a s,Q a s->Q' a s):wpAny M A t Q' E s:=wpAny_mono h hQ λ Z Z x=>x
end L2
namespace L2
open PySem PySem.Spec PyProof.Rows
section
variable {X:Cx}
theorem bin {a b:Expr} {ta tb:TE} (ha:PE X a ta) (hb:PE X b tb) {pins:List (Addr×Obj)} {s:Shared} {σ:St} {H:Hp} {R:V->V->Hp->Prop} (I:Inv X pins σ H s) (h:ta σ H λ x H1=>tb σ H1 λ y H2=>R x y H2)
  {α:Type} {Q:α->Shared->Prop} {f:Value->Value->Sem α}
  (hf:∀v u s2 x y H2,Inv X pins σ H2 s2->RelV x v->RelV y u->R x y H2->wpAny (model X.prog X.w) X.A (f v u) Q X.xe s2):
  wpAny (model X.prog X.w) X.A (eval a X.env) (λ v s₁=>wpAny (model X.prog X.w) X.A (eval b X.env) (λ u s₂=>wpAny (model X.prog X.w) X.A (f v u) Q X.xe s₂) X.xe s₁) X.xe s:=by
 refine thn (ha pins s σ H _ I h) λ v s1 bY=>?_
 obtain⟨x,H1,I1,r1,q1⟩:=bY
 refine thn (hb pins s1 σ H1 _ I1 q1) λ u s2 bY=>?_
 obtain⟨y,H2,I2,r2,q2⟩:=bY
 exact hf v u s2 x y H2 I2 r1 r2 q2
noncomputable def tVar (i:Nat):TE:=λ σ H Q=>∃v,σ[i]?=some (some v)/\Q v H
noncomputable def tC (v:V):TE:=λ Z H Q=>Q v H
theorem pe_var {i:Nat} {x:Str} {pos:Pos} (hN:X.N[i]?=some x) (hv:Vis X.env.scope x) (hd:autoParam ((x ==("__debug__" :Str))=false) dM._auto_1) (hcd:autoParam ((x ==("__classdict__" :Str))=false) dM._auto_1):PE X (.Name x pos) (tVar i):=by
 intro pins s σ H Q I h
 refine bc λ zQ=>?_
 obtain⟨v,e,h⟩:=h
 obtain⟨m,hn,hl⟩:=I.loc
 obtain⟨u,r,l⟩:=hl i x v hN e hv
 apply zQ;clear zQ
 have fin:EP X pins σ Q u s:=⟨v,H,I,r,h⟩
 refine bc λ zQ=>?_
 rcases l with⟨hk,hm⟩ |⟨hk,c,hc,hcell⟩
 ·apply zQ;clear zQ
  exact wpAny_Name (wpAny_loadName_local I.ok.kind hk hn hm fin) hd
 ·apply zQ;clear zQ
  refine bc λ zQ=>?_
  rcases hk with hk |hk
  ·apply zQ;clear zQ
   exact wpAny_Name (wpAny_loadName_cell I.ok.kind hk hc hcell fin) hd
  ·apply zQ;clear zQ
   exact wpAny_Name (wpAny_loadName_free I.ok.kind hk hc hcell fin hcd) hd
theorem pe_int {i j pos}:PE X (.Constant (.int i) j pos) (tC (.int i)):=λ Z Z Z H Z I h=>wpAny_Constant_int ⟨.int i,H,I.tok _,⟨_,rfl⟩,h⟩
theorem pe_bl {b j pos}:PE X (.Constant (.bool b) j pos) (tC (.bl b)):=λ Z Z Z H Z I h=>Constant_bool ⟨.bl b,H,I,rfl,h⟩
theorem pe_non {j pos}:PE X (.Constant .none j pos) (tC .non):=λ Z Z Z H Z I h=>Constant_none ⟨.non,H,I,rfl,h⟩
theorem pe_str {x j pos}:PE X (.Constant (.str x) j pos) (tC (.str x)):=λ Z Z Z H Z I h=>Calls.Constant_str ⟨.str x,H,I.tok _,⟨_,rfl⟩,h⟩
noncomputable def Gl (X:Cx) (x:Str):Prop:=X.env.kindOf x=some .globalImplicit
theorem ld_glob {E:Value->Shared->Prop} {pins:List (Addr×Obj)} {s:Shared} {σ:St} {H:Hp} {x:Str} {u:Value} {pos:Pos} {Q:Value->Shared->Prop} (I:Inv X pins σ H s) (hg:Gl X x) (hm:X.mg x=some u) (h:Q u s)
  (hd:autoParam ((x ==("__debug__" :Str))=false) dM._auto_1):wpAny (model X.prog X.w) X.A (eval (.Name x pos) X.env) Q E s:=
 Calls.Name_function_global I.ok.kind hg (Calls.loadGlobal_global (by rw[I.ok.glob];exact I.mod.glob.keeps I.bk) hm h) hd
theorem ld_blt {E:Value->Shared->Prop} {pins:List (Addr×Obj)} {s:Shared} {σ:St} {H:Hp} {x:Str} {u:Value} {pos:Pos} {Q:Value->Shared->Prop} (I:Inv X pins σ H s) (hg:Gl X x) (hm:X.mg x=none) (hv:bootBuiltins x=some u) (h:Q u s)
  (hn:autoParam (x≠"__name__") dM._auto_1) (hd:autoParam ((x ==("__debug__" :Str))=false) dM._auto_1):wpAny (model X.prog X.w) X.A (eval (.Name x pos) X.env) Q E s:=by
 obtain⟨mb,h1,h2⟩:=I.mod.blt
 exact Calls.Name_function_global I.ok.kind hg (Calls.loadGlobal_builtin (by rw[I.ok.glob];exact I.mod.glob.keeps I.bk) hm (by rw[I.ok.blt];exact h1.keeps I.bk) ((h2 x hn).trans hv) h) hd
theorem pe_glob {x:Str} {v:V} {u:Value} {pos:Pos} (hg:Gl X x) (hm:X.mg x=some u) (r:RelV v u) (hd:autoParam ((x ==("__debug__" :Str))=false) dM._auto_1):PE X (.Name x pos) (tC v):=
 λ Z Z Z H Z I h=>ld_glob I hg hm ⟨v,H,I,r,h⟩ hd
theorem pe_bltn {x:Str} {v:V} {u:Value} {pos:Pos} (hg:Gl X x) (hm:X.mg x=none) (hv:bootBuiltins x=some u) (r:RelV v u) (hn:autoParam (x≠"__name__") dM._auto_1) (hd:autoParam ((x ==("__debug__" :Str))=false) dM._auto_1):PE X (.Name x pos) (tC v):=
 λ Z Z Z H Z I h=>ld_blt I hg hm hv ⟨v,H,I,r,h⟩ hn hd
variable {a b:Expr} {ta tb:TE} {pos:Pos}
noncomputable def PC (X:Cx) (op:CmpOp) (a b:Expr) (t:TE):Prop:=
 ∀ (pins:List (Addr×Obj)) (s:Shared) (σ:St) (H:Hp) (Q:VK),Inv X pins σ H s->t σ H Q->
  wpAny (model X.prog X.w) X.A (eval a X.env) (λ v s₁=>wpAny (model X.prog X.w) X.A (eval b X.env) (λ u s₂=>wpAny (model X.prog X.w) X.A (compareOp op v u) (EP X pins σ Q) X.xe s₂) X.xe s₁) X.xe s
theorem nobehind (b:Expr) {op:CmpOp} (h:op≠.In) (h2:op≠.NotIn):behindInMarks op b=false:=by
 have e1:(op ==CmpOp.In)=false:=by cases op <;> first |rfl |exact absurd rfl h
 have e2:(op ==CmpOp.NotIn)=false:=by cases op <;> first |rfl |exact absurd rfl h2
 cases b with
 |Set elts k _=>show (k ==0 && (op == .In || op == .NotIn) && elts.all (constantsAlone 8))=false;rw[e1,e2,Bool.or_false,Bool.and_false,Bool.false_and]
 |_=>rfl
noncomputable def tB (t:TE):TT:=λ σ H Q=>t σ H λ x H1=>∃c,x= .bl c/\Q c H1
theorem pt_cmp {op:CmpOp} {t:TE} (h:PC X op a b t) (h1:behindInMarks op b=false:=by first |exact nobehind _ (by decide) (by decide) |rfl):PT X (.Compare a [op] [b] pos) (tB t):=by
 intro pins s σ H Q I hw
 refine wpAny_isTrue_Compare1 (thn (h pins s σ H _ I hw) λ v s1 h1=>thn h1 λ u s2 h2=>thn h2 λ c s3 ⟨x,H1,I1,r1,q1⟩=>?_) h1
 obtain⟨d,rfl,q⟩:=q1
 obtain rfl:=r1
 exact wpAny_truthy_bool ⟨H1,I1,q⟩
theorem pt_val {e:Expr} {t:TE} (h:PE X e t) (he:autoParam (∀whole,isTrue e X.env whole=(do let v <-whole;standAt e.pos;holding [v] (truthy v))) ZL._auto_1):PT X e (tB t):=by
 intro pins s σ H Q I hw
 refine isTrue_plain (thn (h pins s σ H _ I hw) λ v s1 ⟨x,H1,I1,r1,q1⟩=>?_) (he _)
 obtain⟨d,rfl,q⟩:=q1
 obtain rfl:=r1
 exact wpAny_truthy_bool ⟨H1,I1,q⟩
variable {tA tB':TT} {rest:List Expr}
noncomputable def tAnd (t u:TT):TT:=λ σ H Q=>t σ H λ c H1=>if c=true then u σ H1 Q else Q false H1
noncomputable def tOr (t u:TT):TT:=λ σ H Q=>t σ H λ c H1=>if c=true then Q true H1 else u σ H1 Q
noncomputable def tNot (t:TT):TT:=λ σ H Q=>t σ H λ c H1=>Q (!c) H1
theorem pw_and1 (ha:PT X a tA):PW X (.BoolOp .And [a] pos) tA:=by
 intro wh pins s σ H Q I h
 refine isTrue_and (thn (ha pins s σ H Q I h) λ c s1 e=>?_)
 cases c with
 |true=>exact isTrue_and_nil e
 |false=>exact e
theorem pw_or1 (ha:PT X a tA):PW X (.BoolOp .Or [a] pos) tA:=by
 intro wh pins s σ H Q I h
 refine isTrue_or (thn (ha pins s σ H Q I h) λ c s1 e=>?_)
 cases c with
 |false=>exact isTrue_or_nil e
 |true=>exact e
theorem pw_and (ha:PT X a tA) (hb:PW X (.BoolOp .And (b::rest) pos) tB'):PW X (.BoolOp .And (a::b::rest) pos) (tAnd tA tB'):=by
 intro wh pins s σ H Q I h
 refine isTrue_and (thn (ha pins s σ H _ I h) λ c s1 bY=>?_)
 obtain⟨H1,I1,q1⟩:=bY
 cases c with
 |true=>exact hb wh pins s1 σ H1 Q I1 q1
 |false=>exact⟨H1,I1,q1⟩
theorem pw_or (ha:PT X a tA) (hb:PW X (.BoolOp .Or (b::rest) pos) tB'):PW X (.BoolOp .Or (a::b::rest) pos) (tOr tA tB'):=by
 intro wh pins s σ H Q I h
 refine isTrue_or (thn (ha pins s σ H _ I h) λ c s1 bY=>?_)
 obtain⟨H1,I1,q1⟩:=bY
 cases c with
 |true=>exact⟨H1,I1,q1⟩
 |false=>exact hb wh pins s1 σ H1 Q I1 q1
theorem pt_not (ha:PT X a tA):PT X (.UnaryOp .Not a pos) (tNot tA):=by
 intro pins s σ H Q I h
 refine isTrue_not (thn (ha pins s σ H (λ c H1=>Q (!c) H1) I h) λ c s1 hz=>?_)
 obtain⟨H1,I1,q1⟩:=hz
 exact⟨H1,I1,q1⟩
noncomputable def tAndV (ta tb:TE):TE:=λ σ H Q=>ta σ H λ x H1=>∃c,x= .bl c/\if c=true then tb σ H1 Q else Q (.bl false) H1
noncomputable def tNotV (ta:TE):TE:=λ σ H Q=>ta σ H λ x H1=>∃c,x= .bl c/\Q (.bl (!c)) H1
theorem pe_one {op} {t:TE} (h:PE X a t):PE X (.BoolOp op [a] pos) t:=λ pins s σ H Q I hw=>BoolOp_one (h pins s σ H Q I hw)
theorem pe_and (ha:PE X a ta) (hb:PE X (.BoolOp .And (b::rest) pos) tb):PE X (.BoolOp .And (a::b::rest) pos) (tAndV ta tb):=by
 intro pins s σ H Q I h
 refine BoolOp_and (thn (ha pins s σ H _ I h) λ v s1 bY=>?_)
 refine bc λ zQ=>?_
 obtain⟨x,H1,I1,r1,q1⟩:=bY
 obtain⟨c,rfl,q1⟩:=q1
 apply zQ;clear zQ
 obtain rfl:=r1
 refine wpAny_truthy_bool ?_
 refine bc λ zQ=>?_
 cases c with
 |true=>apply zQ;clear zQ;exact hb pins s1 σ H1 Q I1 q1
 |false=>apply zQ;clear zQ;exact⟨.bl false,H1,I1,rfl,q1⟩
theorem pe_not (ha:PE X a ta):PE X (.UnaryOp .Not a pos) (tNotV ta):=by
 intro pins s σ H Q I h
 refine UnaryOp_ (thn (ha pins s σ H _ I h) λ v s1 bY=>?_)
 obtain⟨x,H1,I1,r1,q1⟩:=bY
 obtain⟨c,rfl,q1⟩:=q1
 obtain rfl:=r1
 exact not_of (wpAny_truthy_bool ⟨.bl (!c),H1,I1,rfl,q1⟩)
noncomputable def tIf (t:TT) (ta tb:TE):TE:=λ σ H Q=>t σ H λ c H1=>if c=true then ta σ H1 Q else tb σ H1 Q
theorem pe_ifExp {c:Expr} (hc:PT X c tA) (ha:PE X a ta) (hb:PE X b tb):PE X (.IfExp c a b pos) (tIf tA ta tb):=by
 intro pins s σ H Q I h
 refine wpAny_IfExp (thn (hc pins s σ H _ I h) λ d s1 bY=>?_)
 obtain⟨H1,I1,q1⟩:=bY
 cases d with
 |true=>exact ha pins s1 σ H1 Q I1 q1
 |false=>exact hb pins s1 σ H1 Q I1 q1
end
end L2
namespace L2
open PySem PySem.Spec PyProof.Rows
noncomputable def SqL (K:PySem.W.Frag) (H:Hp) (a:Addr) (xs:List V):Prop:=
 Rd H a (.lst xs)\/
  ∃(o:Obj) (its:Array Value) (n:Nat),K.lookup a=some o/\o.cls= .type "list"/\o.dict=none/\o.data= .seq its n/\its.size<=sizeLine/\Vals xs its.toList
noncomputable def SqT (K:PySem.W.Frag) (H:Hp) (a:Addr) (xs:List V):Prop:=
 Rd H a (.tup xs)\/
  ∃(o:Obj) (its:Array Value) (n:Nat),K.lookup a=some o/\o.cls= .type "tuple"/\o.data= .seq its n/\its.size<=sizeLine/\Vals xs its.toList
noncomputable def absV:Value->Option V
 | .none=>some .non
 | .bool b=>some (.bl b)
 | .int i _=>some (.int i)
 | .str x _=>some (.str x)
 | .bytes b _=>some (.byt b)
 | .float b _=>some (.flt b)
 | .ref a=>some (.ref a)
 | .type n=>some (.ty n)
 |_=>none
theorem RelV.abs {x:V} {u:Value} (r:RelV x u):absV u=some x:=by
 cases x with
 |non=>obtain rfl:=r;rfl
 |bl _=>obtain rfl:=r;rfl
 |int _=>obtain⟨t,rfl⟩:=r;rfl
 |str _=>obtain⟨t,rfl⟩:=r;rfl
 |byt _=>obtain⟨t,rfl⟩:=r;rfl
 |flt _=>obtain⟨t,rfl⟩:=r;rfl
 |ref _=>obtain rfl:=r;rfl
 |ty _=>obtain rfl:=r;rfl
theorem RelV.inj {x y:V} {u:Value} (r:RelV x u) (q:RelV y u):x=y:=Option.some.inj (r.abs.symm.trans q.abs)
theorem Vals.inj:∀{xs ys:List V} {us:List Value},Vals xs us->Vals ys us->xs=ys
 :=by
 intro xs ys us h
 induction h generalizing ys with
 |nil=>intro q;cases q;rfl
 |cons r t ih=>intro q;cases q with |cons r' t'=>rw[r.inj r',ih t']
section
variable {X:Cx} {pins:List (Addr×Obj)} {σ:St} {H:Hp} {s:Shared} {a:Addr} {xs ys:List V}
theorem SqL.of {K:PySem.W.Frag} (h:H a=some (.lst xs)):SqL K H a xs:= .inl (.inl h)
theorem SqT.of {K:PySem.W.Frag} (h:H a=some (.tup xs)):SqT K H a xs:= .inl (.inl h)
inductive ILi (xs:List V) (h:Heap) (a:Addr):Prop
 |mk (its:List Value) (r:Vals xs its) (p:PlainL h a its.toArray) (z:xs.length<=sizeLine)
inductive ITu (xs:List V) (h:Heap) (a:Addr):Prop
 |mk (its:List Value) (r:Vals xs its) (p:IsTup h a its.toArray) (z:xs.length<=sizeLine)
theorem Inv.list (I:Inv X pins σ H s) (h:SqL X.K H a xs):ILi xs s.heap a:=by
 rcases h with h |⟨o,its,n,hk,hc,hd,hs,hz,r⟩
 ·obtain⟨z,its,n,r,e⟩:=h.ok I.hok
  exact⟨its,r,⟨_,n,e,rfl,rfl,rfl⟩,z⟩
 ·refine⟨its.toList,r,⟨o,n,I.kIn a o hk,hc,hd,by simpa using hs⟩,?_⟩
  have e:=r.length
  simp only[Array.length_toList] at e
  exact oq0 e hz
theorem Inv.tuple (I:Inv X pins σ H s) (h:SqT X.K H a xs):ITu xs s.heap a:=by
 rcases h with h |⟨o,its,n,hk,hc,hs,hz,r⟩
 ·obtain⟨z,its,r,p⟩:=h.ok I.hok
  exact⟨its,r,p,z⟩
 ·refine⟨its.toList,r,⟨o,I.kIn a o hk,hc,n,by simpa using hs⟩,?_⟩
  have e:=r.length
  simp only[Array.length_toList] at e
  exact oq0 e hz
theorem Inv.list_inj (I:Inv X pins σ H s) (h:SqL X.K H a xs) (h':SqL X.K H a ys):xs=ys:=by
 obtain⟨its,r,⟨o,n,e,_,_,d⟩,_⟩:=I.list h
 obtain⟨its',r',⟨o',n',e',_,_,d'⟩,_⟩:=I.list h'
 rw[e] at e';(injection e' with aH;subst aH)
 rw[d] at d'
 injection d' with d1 _
 have:its=its':=by simpa using congrArg Array.toList d1
 subst this
 exact r.inj r'
theorem Inv.tuple_inj (I:Inv X pins σ H s) (h:SqT X.K H a xs) (h':SqT X.K H a ys):xs=ys:=by
 obtain⟨its,r,⟨o,e,_,n,d⟩,_⟩:=I.tuple h
 obtain⟨its',r',⟨o',e',_,n',d'⟩,_⟩:=I.tuple h'
 rw[e] at e';(injection e' with aH;subst aH)
 rw[d] at d'
 injection d' with d1 _
 have:its=its':=by simpa using congrArg Array.toList d1
 subst this
 exact r.inj r'
end
noncomputable abbrev Cx.wish (X:Cx) (E:Value->Shared->Prop):Cx:={X with xe:=E}
noncomputable abbrev Cx.nox (X:Cx):Cx:=X.wish λ Z Z=>False
theorem Cx.Ok.wish {X:Cx} (ok:X.Ok) (E:Value->Shared->Prop):(X.wish E).Ok:=
 ⟨ok.mod,ok.kind,ok.glob,ok.blt,ok.above,ok.inj,ok.has,ok.cab,ok.hd,ok.frames,ok.stk,ok.exf,ok.bs,ok.bsz,ok.noex,ok.exfs,ok.funs,ok.frf⟩
theorem Cx.Ok.unwish {X:Cx} {E:Value->Shared->Prop} (ok:(X.wish E).Ok):X.Ok:=
 ⟨ok.mod,ok.kind,ok.glob,ok.blt,ok.above,ok.inj,ok.has,ok.cab,ok.hd,ok.frames,ok.stk,ok.exf,ok.bs,ok.bsz,ok.noex,ok.exfs,ok.funs,ok.frf⟩
section
variable {X:Cx} {pins:List (Addr×Obj)} {σ:St} {H:Hp} {s:Shared} {E:Value->Shared->Prop}
theorem Inv.wish (I:Inv X pins σ H s) (E:Value->Shared->Prop):Inv (X.wish E) pins σ H s:=⟨I.ok.wish E,I.os,I.bare,I.base,I.loc,I.cell,I.free,I.freeC,I.pin,I.hok,I.len⟩
theorem Inv.unwish (I:Inv (X.wish E) pins σ H s):Inv X pins σ H s:=⟨I.ok.unwish,I.os,I.bare,I.base,I.loc,I.cell,I.free,I.freeC,I.pin,I.hok,I.len⟩
theorem SP.unwish {D:Ends} {f:Flow} {s':Shared} (h:SP (X.wish E) pins D f s'):SP X pins D f s':=by
 cases f with
 |next=>obtain⟨σ',H',I,q⟩:=h;exact⟨σ',H',I.unwish,q⟩
 |brk=>obtain⟨σ',H',I,q⟩:=h;exact⟨σ',H',I.unwish,q⟩
 |cont=>obtain⟨σ',H',I,q⟩:=h;exact⟨σ',H',I.unwish,q⟩
 |ret u=>obtain⟨v,σ',H',I,r,q⟩:=h;exact⟨v,σ',H',I.unwish,r,q⟩
theorem PSs.nox {st:List Stmt} {t:TS} (h:PSs X.nox st t):PSs X st t:=λ pins s σ H D I hw=>
 wpAny_mono (h pins s σ H D (I.wish _) hw) (λ Z Z q=>q.unwish) λ Z Z z=>False.elim z
end
section
variable {X:Cx} {st:Stmt} {rest:List Stmt} {t u:TS} {e:Expr} {te:TE} {pos:Pos}
noncomputable def tNext:TS:=λ D σ H=>D.nx σ H
noncomputable def tSeq (t u:TS):TS:=λ D σ H=>t {D with nx:=u D} σ H
theorem pss_nil:PSs X [] tNext:=λ Z Z σ H Z I h=>wpAny_execs_nil ⟨σ,H,I,h⟩
theorem pss_cons (h1:PS X st t) (h2:PSs X rest u):PSs X (st::rest) (tSeq t u):=by
 intro pins s σ H D I h
 refine wpAny_execs_cons (thn (h1 pins s σ H {D with nx:=u D} I h) λ f s1 q=>?_)
 cases f with
 | next=>
  obtain⟨σ',H',I',q⟩:=q
  exact h2 pins s1 σ' H' D I' q
 |ret v=>exact q
 |brk=>exact q
 |cont=>exact q
theorem pss_one (h1:PS X st t):PSs X [st] t:=by
 intro pins s σ H D I h
 refine wpAny_execs_cons (thn (h1 pins s σ H D I h) λ f s1 q=>?_)
 cases f with
 |next=>exact wpAny_execs_nil q
 |ret v=>exact q
 |brk=>exact q
 |cont=>exact q
theorem Inv.quiet {pins:List (Addr×Obj)} {σ:St} {H:Hp} {s:Shared} (I:Inv X pins σ H s):interactive X.env=false:=by simp[interactive,I.ok.kind]
noncomputable def tDrop (te:TE):TS:=λ D σ H=>te σ H λ Z H1=>D.nx σ H1
theorem ps_expr (he:PE X e te) (hs:autoParam (swapsWith e none pos.line X.env=pure false) bB._auto_1):PS X (.Expr e pos) (tDrop te):=by
 intro pins s σ H D I h
 exact wpAny_Expr_any (thn (he pins s σ H _ I h) λ v s1 ⟨x,H1,I1,r1,q1⟩=>⟨σ,H1,I1,q1⟩) I.quiet hs
noncomputable def tRet (te:TE):TS:=λ D σ H=>te σ H D.rt
theorem ps_ret (he:PE X e te):PS X (.Return (some e) pos) (tRet te):=by
 intro pins s σ H D I h
 exact wpAny_Return_some (thn (he pins s σ H _ I h) λ v s1 ⟨x,H1,I1,r1,q1⟩=>⟨x,σ,H1,I1,r1,q1⟩)
noncomputable def tIfS (c:TT) (t u:TS):TS:=λ D σ H=>c σ H λ b H1=>if b=true then t D σ H1 else u D σ H1
theorem ps_if {c:Expr} {a b:List Stmt} {tc:TT} (hc:PT X c tc) (ha:PSs X a t) (hb:PSs X b u):PS X (.If c a b pos) (tIfS tc t u):=by
 intro pins s σ H D I h
 refine wpAny_If (thn (hc pins s σ H _ I h) λ d s1 bY=>?_)
 obtain⟨H1,I1,q1⟩:=bY
 cases d with
 |true=>exact ha pins s1 σ H1 D I1 q1
 |false=>exact hb pins s1 σ H1 D I1 q1
end
noncomputable abbrev TG:=V->St->Hp->(St->Hp->Prop)->Prop
noncomputable abbrev TGs:=List V->St->Hp->(St->Hp->Prop)->Prop
noncomputable def PG (X:Cx) (target:Expr) (t:TG):Prop:=
 ∀ (pins:List (Addr×Obj)) (s:Shared) (σ:St) (H:Hp) (v:V) (u:Value) (Q:St->Hp->Prop),Inv X pins σ H s->RelV v u->t v σ H Q->
  wpAny (model X.prog X.w) X.A (assign target X.env u) (λ Z s'=>ZP X pins Q s') X.xe s
noncomputable def PGs (X:Cx) (ts:List Expr) (t:TGs):Prop:=
 ∀ (pins:List (Addr×Obj)) (s:Shared) (σ:St) (H:Hp) (vs:List V) (us:List Value) (Q:St->Hp->Prop),Inv X pins σ H s->Vals vs us->t vs σ H Q->
  wpAny (model X.prog X.w) X.A (assignInOrder ((assignEach ts X.env).map (·.2)) us) (λ Z s'=>ZP X pins Q s') X.xe s
noncomputable abbrev TIp:=V->V->Hp->VK->Prop
noncomputable def PIp (X:Cx) (op:Operator) (t:TIp):Prop:=
 ∀ (pins:List (Addr×Obj)) (s:Shared) (σ:St) (H:Hp) (x y:V) (v u:Value) (Q:VK),Inv X pins σ H s->RelV x v->RelV y u->t x y H Q->
  wpAny (model X.prog X.w) X.A (inplaceOp op v u) (EP X pins σ Q) X.xe s
section
variable {X:Cx} {pos:Pos}
noncomputable def gName (i:Nat):TG:=λ v σ H Q=>Q (σ.set i (some v)) H
theorem pg_name {i:Nat} {x:Str} (hN:X.N.Nodup) (hi:X.N[i]?=some x) (hx:Loc X.env.scope x) (hf:autoParam (X.fn x=true\/X.env.scope.names.lookup x=some .local) ap6._auto_1):PG X (.Name x pos) (gName i):=by
 intro pins s σ H v u Q I r h
 exact wpAny_assign_Name (store_ok I hN hi hx r (λ s' I'=>⟨_,H,I',h⟩) hf)
noncomputable def gNil:TGs:=λ vs σ H Q=>vs=[]/\Q σ H
noncomputable def gCons (t:TG) (u:TGs):TGs:=λ vs σ H Q=>∃v r,vs=v::r/\t v σ H λ σ' H'=>u r σ' H' Q
theorem pgs_nil:PGs X [] gNil:=by
 intro pins s σ H vs us Q I r h
 obtain⟨e,h⟩:=h
 subst e
 cases r
 exact assignInOrder_nil ⟨σ,H,I,h⟩
theorem pgs_cons {e:Expr} {es:List Expr} {t:TG} {u:TGs} (h1:PG X e t) (h2:PGs X es u)
  (hs:autoParam ((assignEach (e::es) X.env).map (·.2)=assign e X.env::(assignEach es X.env).map (·.2)) bB._auto_1):PGs X (e::es) (gCons t u):=by
 intro pins s σ H vs us Q I r h
 obtain⟨v,vr,e1,h⟩:=h
 subst e1
 cases r with
 | cons r rr=>
  rw[hs]
  refine assignInOrder_cons (thn (h1 pins s σ H _ _ _ I r h) λ Z s1 bY=>?_)
  obtain⟨σ1,H1,I1,q1⟩:=bY
  exact h2 pins s1 σ1 H1 _ _ Q I1 rr q1
noncomputable def gTup (K:PySem.W.Frag) (n:Nat) (t:TGs):TG:=λ v σ H Q=>∃a xs,v= .ref a/\SqT K H a xs/\xs.length=n/\t xs σ H Q
theorem pg_tup {es:List Expr} {k:Nat} {t:TGs} {n:Nat} (hc:X.calm=true) (h:PGs X es t)
  (hn:autoParam ((assignEach es X.env).length=n) bB._auto_1) (hst:autoParam ((assignEach es X.env).findIdx? (·.1)=none) bB._auto_1):PG X (.Tuple es k pos) (gTup X.K n t):=by
 intro pins s σ H v u Q I r hw
 obtain⟨a,xs,e1,hq,hl,hw⟩:=hw
 subst e1
 obtain rfl:=r
 obtain⟨its,rv,ht,hz⟩:=I.tuple hq
 refine assign_Tuple_tuple (I.ok.hd hc) ht (by simp[hn,<-hl,rv.length]) hst λ h' hx=>?_
 have I1:Inv X pins σ H {s with heap:=h'}:=I.kept (t':=s.toks) λ b o e=>hx b o (Nat.ne_of_lt (Heap.lt_size e)) e
 exact h pins _ σ H xs _ Q I1 (by simpa using rv) hw
noncomputable def tAsg (te:TE) (g:TG):TS:=λ D σ H=>te σ H λ x H1=>g x σ H1 D.nx
theorem ps_asg {tg e:Expr} {te:TE} {g:TG} (he:PE X e te) (hg:PG X tg g) (hs:autoParam (swapsWithSole [tg] e pos.line X.env=pure false) bB._auto_1) (hw:autoParam (swappedStores [tg] e X.env=pure none) bB._auto_1)
  (h1:autoParam ((assignEach [tg] X.env).map (·.2)=[assign tg X.env]) bB._auto_1):PS X (.Assign [tg] e pos) (tAsg te g):=by
 intro pins s σ H D I h
 refine wpAny_Assign_stores (thn (he pins s σ H _ I h) λ v s1 ⟨x,H1,I1,r1,q1⟩=>?_) hs hw
 rw[h1]
 exact thn (hg pins s1 σ H1 x v _ I1 r1 q1) λ Z s2 q=>q
theorem ps_set {i:Nat} {x:Str} {e:Expr} {te:TE} {pos':Pos} (hN:X.N.Nodup) (hi:X.N[i]?=some x) (hx:Loc X.env.scope x) (he:PE X e te) (hs:autoParam (swapsWith e (some (.Name x pos')) pos.line X.env=pure false) bB._auto_1) (hf:autoParam (X.fn x=true\/X.env.scope.names.lookup x=some .local) ap6._auto_1):
  PS X (.Assign [.Name x pos'] e pos) (tAsg te (gName i)):=by
 intro pins s σ H D I h
 refine wpAny_Assign_Name (thn (he pins s σ H _ I h) λ v s1 ⟨y,H1,I1,r1,q1⟩=>?_) hs
 exact store_ok I1 hN hi hx r1 (λ s2 I2=>⟨_,H1,I2,q1⟩) hf
noncomputable def tPar (i j:Nat) (ta:TA):TS:=λ D σ H=>ta σ H λ vs H1=>∃v w,vs=[v,w]/\D.nx ((σ.set i (some v)).set j (some w)) H1
theorem ps_par {i j:Nat} {x y:Str} {a b:Expr} {ta:TA} {px py pt:Pos} {kt k2 pt2} (hc:X.calm=true) (hN:X.N.Nodup) (hi:X.N[i]?=some x) (hj:X.N[j]?=some y) (hij:i≠j)
  (hx:X.env.scope.names.lookup x=some .local) (hy:X.env.scope.names.lookup y=some .local) (ha:PA X [a,b] ta)
  (hw:swappedStores [.Tuple [.Name x px,.Name y py] kt pt] (.Tuple [a,b] k2 pt2) X.env=pure (some [x,y]))
  (hs:autoParam (swapsWithSole [.Tuple [.Name x px,.Name y py] kt pt] (.Tuple [a,b] k2 pt2) pos.line X.env=pure false) bB._auto_1):
  PS X (.Assign [.Tuple [.Name x px,.Name y py] kt pt] (.Tuple [a,b] k2 pt2) pos) (tPar i j ta):=by
 intro pins s σ H D I h
 rw[exec_Assign_arm]
 refine wpAny_bind (wpAny_standAt ?_)
 rw[hs]
 refine wpAny_bind (wpAny_pure ?_)
 rw[if_neg (by decide)]
 refine wpAny_bind (Tuple_ (thn (ha _ pins s σ H _ I h) λ us s1 bY=>?_))
 obtain⟨vs,H1,I1,r1,q1⟩:=bY
 obtain⟨v,w,e1,q1⟩:=q1
 subst e1
 obtain⟨u1,u2,rfl,rv,rw'⟩:∃u1 u2,us=[u1,u2]/\RelV v u1/\RelV w u2:=by
  cases r1 with
  | cons p q=>
   cases q with
   | cons p' q'=>
    cases q'
    exact⟨_,_,rfl,p,p'⟩
 refine wpAny_newObj_type ?_ (by show 2<=sizeLine;decide)
 have I2:Inv X pins σ H1 {s1 with heap:=s1.heap.push {cls:= .type "tuple",data:= .seq [u1,u2].toArray}}:=I1.kept (t':=s1.toks) λ b o e=>Heap.get?_push_of_some _ e
 rw[hw]
 refine wpAny_bind (wpAny_pure ?_)
 show wpAny (model X.prog X.w) X.A (do rule "assign.swapped-stores";let items <-unpackItems (.ref s1.heap.objs.size) 2 none;assignInOrder [λ v=>bindName X.env y v,λ v=>bindName X.env x v] items.reverse;pure Flow.next) _ _ _
 refine wpAny_bind (wpAny_rule (wpAny_bind (unpackItems_tuple (items:= #[u1,u2]) (I.ok.hd hc) (IsTup.new s1.heap _) λ h' hx'=>?_)))
 have I3:=I2.kept (h':=h') (t':=s1.toks) λ b o e=>hx' b o (Nat.ne_of_lt (Heap.lt_size e)) e
 show wpAny _ _ (assignInOrder [λ v=>bindName X.env y v,λ v=>bindName X.env x v] [u2,u1] >>=λ Z=>pure Flow.next) _ _ _
 refine wpAny_bind (assignInOrder_cons (wpAny_bindName (store_ok I3 hN hj (.inl hy) rw' (λ s2 I4=>?_) (.inr hy))))
 refine assignInOrder_cons (wpAny_bindName (store_ok I4 hN hi (.inl hx) rv (λ s3 I5=>assignInOrder_nil (wpAny_pure ?_)) (.inr hx)))
 rw[List.set_comm _ _ (Ne.symm hij)] at I5
 exact⟨_,H1,I5,q1⟩
noncomputable def tAug (i:Nat) (te:TE) (ti:TIp):TS:=λ D σ H=>∃x,σ[i]?=some (some x)/\te σ H λ y H1=>ti x y H1 λ z H2=>D.nx (σ.set i (some z)) H2
theorem ps_aug {i:Nat} {x:Str} {e:Expr} {te:TE} {op:Operator} {ti:TIp} {pos':Pos} (hN:X.N.Nodup) (hi:X.N[i]?=some x) (hx:Loc X.env.scope x) (he:PE X e te) (ho:PIp X op ti) (hf:autoParam (X.fn x=true\/X.env.scope.names.lookup x=some .local) ap6._auto_1):
  PS X (.AugAssign (.Name x pos') op e pos) (tAug i te ti):=by
 intro pins s σ H D I h
 refine bc λ zQ=>?_
 obtain⟨v,e1,h⟩:=h
 obtain⟨m,hn,hl⟩:=I.loc
 apply zQ;clear zQ
 have vis:Vis X.env.scope x:=by rcases hx with k |k;exact .inl k;exact .inr (.inl k)
 refine bc λ zQ=>?_
 obtain⟨u,r,l⟩:=hl i x v hi e1 vis
 apply zQ;clear zQ
 refine wpAny_AugAssign_Name ?_
 have go:wpAny (model X.prog X.w) X.A (eval e X.env) (λ w s₂=>wpAny (model X.prog X.w) X.A (inplaceOp op u w) (λ r s₃=>wpAny (model X.prog X.w) X.A (storeName X.env x r) (λ Z=>SP X pins D .next) X.xe s₃) X.xe s₂) X.xe s:=by
  refine thn (he pins s σ H _ I h) λ w s1 bY=>?_
  refine bc λ zQ=>?_
  obtain⟨y,H1,I1,r1,q1⟩:=bY
  apply zQ;clear zQ
  refine thn (ho pins s1 σ H1 v y u w _ I1 r r1 q1) λ z s2 bY=>?_
  refine bc λ zQ=>?_
  obtain⟨zv,H2,I2,r2,q2⟩:=bY
  apply zQ;clear zQ
  exact store_ok I2 hN hi hx r2 (λ s3 I3=>⟨_,H2,I3,q2⟩) hf
 refine bc λ zQ=>?_
 rcases l with⟨hk,hm⟩ |⟨hk,c,hc,hcell⟩
 ·apply zQ;clear zQ
  exact wpAny_loadName_local I.ok.kind hk hn hm go
 ·apply zQ;clear zQ
  refine bc λ zQ=>?_
  rcases hk with hk |hk
  ·apply zQ;clear zQ
   exact wpAny_loadName_cell I.ok.kind hk hc hcell go
  ·apply zQ;clear zQ
   refine bc λ zQ=>?_
   rcases hx with k |k
   ·apply zQ;clear zQ
    have:X.env.scope.names.lookup x=some .free:=hk
    rw[k] at this;(injection this with aH;injection aH)
   ·apply zQ;clear zQ
    have:X.env.scope.names.lookup x=some .free:=hk
    rw[k] at this;(injection this with aH;injection aH)
end
section
variable {X:Cx} {pos:Pos}
noncomputable def tWhile (c:TT) (tb:TS):TS:=λ D σ H=>∃W:Nat->St->Hp->Prop,(∃m,W m σ H)/\∀m σ H,W m σ H->
 c σ H λ b H1=>if b=true then ∃N:St->Hp->Prop,(∀σ' H',N σ' H'->∃m',m' < m/\W m' σ' H')/\tb {D with nx:=N,ct:=N,bk:=D.nx} σ H1 else D.nx σ H1
theorem ps_while {c:Expr} {body:List Stmt} {tc:TT} {tb:TS} (hp:PassesOwn (model X.prog X.w) X.A X.env X.xe) (hc:PT X c tc) (hb:PSs X body tb):PS X (.While c body [] pos) (tWhile tc tb):=by
 intro pins s σ H D I h
 obtain⟨W,⟨m0,w0⟩,turn⟩:=h
 refine wpAny_While (codeAny_whileLoop (λ n s'=>∃σ' H',Inv X pins σ' H' s'/\W n σ' H') ?_ m0 ⟨σ,H,I,w0⟩)
 rintro n s1 ⟨σ1,H1,I1,w1⟩
 refine wpAny_passesOwn hp (thn (hc pins s1 σ1 H1 _ I1 (turn n σ1 H1 w1)) λ b s2 bY=>?_)
 obtain⟨H2,I2,q2⟩:=bY
 cases b with
 | true=>
  obtain⟨N,hN,q2⟩:=q2
  rw[if_pos rfl]
  refine wpAny_passesOwn hp (thn (hb pins s2 σ1 H2 _ I2 q2) λ f s3 q3=>?_)
  cases f with
  | next=>
   obtain⟨σ3,H3,I3,n3⟩:=q3
   obtain⟨m',hm,w3⟩:=hN σ3 H3 n3
   exact⟨m',hm,σ3,H3,I3,w3⟩
  | cont=>
   obtain⟨σ3,H3,I3,n3⟩:=q3
   obtain⟨m',hm,w3⟩:=hN σ3 H3 n3
   exact⟨m',hm,σ3,H3,I3,w3⟩
  |brk=>exact q3
  |ret v=>exact q3
 | false=>
  rw[if_neg Bool.false_ne_true]
  exact wpAny_execs_nil ⟨σ1,H2,I2,q2⟩
end
structure It where
 go:Nat->Hp->Prop
 yld:Nat->Hp->V->Hp->Prop
 stop:Nat->Hp->Prop
noncomputable def FpOk (X:Cx) (pins:List (Addr×Obj)) (H:Hp) (b:Addr):Prop:=
 H b=none/\b≠X.env.locals/\b∉X.fs/\(b∈X.ex\/X.s₀.heap.objs.size<=b)/\(∀x c,X.env.cells.lookup x=some c->c≠b)/\∀p∈X.pn++pins,p.1≠b
theorem Inv.fpOk {X:Cx} {pins:List (Addr×Obj)} {σ:St} {H H':Hp} {s:Shared} {b:Addr} (I:Inv X pins σ H s) (hb:s.heap.objs.size<=b) (hn:H' b=none):FpOk X pins H' b:=by
 refine⟨hn,Nat.ne_of_gt (z0d I.lt hb),I.nofs hb,.inr (z0b I.sz hb),λ x c e z=>?_,λ p hp z=>?_⟩
 ·obtain⟨v,q⟩:=I.cell x c e
  exact absurd (z0d q.lt (by rw[z];exact hb)) (Nat.lt_irrefl _)
 ·exact absurd (z0d (Heap.lt_size (I.pin p hp).1) (by rw[z];exact hb)) (Nat.lt_irrefl _)
inductive agI (X:Cx) (pins:List (Addr×Obj)) (σ:St) (H:Hp) (J:It) (tn:Nat->Heap->Prop) (fp:List Addr) (i:Nat) (u:Value) (s2:Shared):Prop
 |mk (x:V) (H':Hp) (I:Inv X pins σ H' s2) (r:RelV x u) (y:J.yld i H x H') (st:tn (i+1) s2.heap) (f:∀b∈fp,H' b=none):agI X pins σ H J tn fp i u s2
structure Turn (P:Program) (w:World) (K:PySem.W.Frag) (tg:Expr) (J:It) (fp:List Addr) (it:Addr) (tn:Nat->Heap->Prop):Prop where
 mem:it∈fp
 obj:∀i h,tn i h->∀b∈fp,∃o,h.get? b=some o/\∀v,o.data≠.cell v
 keep:∀i h h',tn i h->(∀b∈fp,∀o,h.get? b=some o->h'.get? b=some o)->tn i h'
 item:∀(X:Cx),X.prog=P->X.w=w->X.K=K->X.calm=true->∀(i:Nat) (pins:List (Addr×Obj)) (s:Shared) (σ:St) (H:Hp) (E:Value->Shared->Prop),Inv X pins σ H s->(∀b∈fp,FpOk X pins H b)->tn i s.heap->J.go i H->
  wpAny (model P w) X.A (pyNext (.ref it)) (λ r s1=>∃u,r=some u/\
   wpAny (model P w) X.A (letOwnedTupleGo tg (.ref it) u) (λ Z s2=>agI X pins σ H J tn fp i u s2) E s1) E s
 done:∀(X:Cx),X.prog=P->X.w=w->X.K=K->X.calm=true->∀(i:Nat) (pins:List (Addr×Obj)) (s:Shared) (σ:St) (H:Hp) (E:Value->Shared->Prop),Inv X pins σ H s->(∀b∈fp,FpOk X pins H b)->tn i s.heap->J.stop i H->
  wpAny (model P w) X.A (pyNext (.ref it)) (λ r s1=>r=none/\Inv X pins σ H s1) E s
 self:∀(A:Around) (i:Nat) (s:Shared) (Q:Value->Shared->Prop) (E:Value->Shared->Prop),tn i s.heap->Q (.ref it) s->wpAny (model P w) A (pyIter (.ref it)) Q E s
noncomputable abbrev TI:=St->Hp->(It->Hp->Prop)->Prop
inductive PIE (X:Cx) (pins:List (Addr×Obj)) (σ:St) (tg:Expr) (R:It->Hp->Prop) (itv:Value) (s2:Shared):Prop
 |mk (it:Addr) (fp:List Addr) (tn:Nat->Heap->Prop) (J:It) (H':Hp) (e:itv= .ref it) (I:Inv X pins σ H' s2) (T:Turn X.prog X.w X.K tg J fp it tn) (st:tn 0 s2.heap) (f:∀b∈fp,FpOk X pins H' b) (r:R J H'):PIE X pins σ tg R itv s2
noncomputable def PI (X:Cx) (tg iter:Expr) (wi:TI):Prop:=
 ∀ (pins:List (Addr×Obj)) (s:Shared) (σ:St) (H:Hp) (R:It->Hp->Prop),Inv X pins σ H s->wi σ H R->
  wpAny (model X.prog X.w) X.A (eval iter X.env) (λ v s1=>wpAny (model X.prog X.w) X.A (pyIter v) (PIE X pins σ tg R) X.xe s1) X.xe s
theorem go_of {M:Model} {A:Around} {E:Value->Shared->Prop} {s:Shared} {tg:Expr} {it:Addr} {u:Value} {o:Obj} {n:String} {vs:Array Value} {Q:Unit->Shared->Prop} (ho:s.heap.get? it=some o) (hc:o.cls= .type n) (hd:o.data= .fields vs)
  (hn:["enumerate","zip","dict_itemiterator","dict_reverseitemiterator","odict_iterator","itertools.zip_longest","itertools.pairwise"].contains n=false) (hQ:Q () s):wpAny M A (letOwnedTupleGo tg (.ref it) u) Q E s:=by
 unfold letOwnedTupleGo
 cases tg <;> first
  |exact wpAny_pure hQ
  | (cases u <;> first
    |exact wpAny_pure hQ
    | (refine wpAny_bind (wpAny_load ho ?_)
       rw[hc,hd]
       show wpAny M A (if (["enumerate","zip","dict_itemiterator","dict_reverseitemiterator","odict_iterator","itertools.zip_longest","itertools.pairwise"].contains n && vs[0]? ==some (rawInt _))=true then _ else _) Q E s
       rw[if_neg (by intro h;rw[hn,Bool.false_and] at h;injection h)]
       exact wpAny_pure hQ))
noncomputable def Itl (K:PySem.W.Frag) (a:Addr):It:=
 ⟨λ i H=>∃xs x,SqL K H a xs/\xs[i]?=some x,λ i H x H'=>H'=H/\∀xs,SqL K H a xs->xs[i]?=some x,λ i H=>∃xs,SqL K H a xs/\xs.length<=i⟩
noncomputable def Itt (K:PySem.W.Frag) (a:Addr):It:=
 ⟨λ i H=>∃xs x,SqT K H a xs/\xs[i]?=some x,λ i H x H'=>H'=H/\∀xs,SqT K H a xs->xs[i]?=some x,λ i H=>∃xs,SqT K H a xs/\xs.length<=i⟩
noncomputable def Itr (lo:Int) (n:Nat):It:=⟨λ i Z=>i < n,λ i H x H'=>H'=H/\x= .int (lo+i),λ i Z=>n<=i⟩
theorem turn_list {P:Program} {w:World} {K:PySem.W.Frag} {tg:Expr} (a it:Addr):Turn P w K tg (Itl K a) [it] it (λ i h=>h.IsListIter it a i) where
 mem:=by simp
 obj:=λ i h st b hb=>by
  have e:b=it:=by simpa using hb
  subst e
  refine bc λ zQ=>?_
  obtain⟨o,e,c,d⟩:=st
  apply zQ;clear zQ
  exact⟨o,e,λ v z=>by rw[d] at z;injection z⟩
 keep:=λ i h h' st k=>st.at λ o e=>k it (by simp) o e
 item:=by
  intro X hP hw hK hc i pins s σ H E I hf st hg
  subst hP hw hK
  refine bc λ zQ=>?_
  obtain⟨xs,x,hq,hx⟩:=hg
  obtain⟨its,rv,p,hz⟩:=I.list hq
  obtain⟨u,hu,ru⟩:=rv.get hx
  obtain⟨f0,f1,f2,f3,f4,f5⟩:=hf it (by simp)
  apply zQ;clear zQ
  refine wpAny_pyNext_list_item st p.isList (x:=u) (by simpa using hu) λ h' st' sb=>?_
  have I1:Inv X pins σ H {s with heap:=h'}:=I.turned (t':=s.toks) (λ b o hb e=>(sb.2 b hb).trans e) f0 f1 f3 f4 f5
  refine bc λ zQ=>?_
  obtain⟨o,e,c,d⟩:=id st'
  apply zQ;clear zQ
  exact⟨u,rfl,go_of (s:={s with heap:=h'}) e c d (by decide) ⟨x,H,I1,ru,⟨rfl,λ ys hy=>by rw[I.list_inj hy hq];exact hx⟩,st',λ b hb=>(hf b hb).1⟩⟩
 done:=by
  intro X hP hw hK hc i pins s σ H E I hf st hg
  subst hP hw hK
  refine bc λ zQ=>?_
  obtain⟨xs,hq,hx⟩:=hg
  obtain⟨its,rv,p,hz⟩:=I.list hq
  obtain⟨f0,f1,f2,f3,f4,f5⟩:=hf it (by simp)
  apply zQ;clear zQ
  have hl:=rv.length
  exact wpAny_pyNext_list_end (I.ok.hd hc) st p.isList (by simp;exact PB hl hx) λ h' eb=>⟨rfl,I.turned (t':=s.toks) (λ b o hb e=>eb b o hb e) f0 f1 f3 f4 f5⟩
 self:=λ Z Z Z Z Z st h=>wpAny_pyIter_listiter st h
theorem turn_tuple {P:Program} {w:World} {K:PySem.W.Frag} {tg:Expr} (a it:Addr):Turn P w K tg (Itt K a) [it] it (λ i h=>h.IsTupleIter it a i) where
 mem:=by simp
 obj:=λ i h st b hb=>by
  have e:b=it:=by simpa using hb
  subst e
  refine bc λ zQ=>?_
  obtain⟨o,e,c,d⟩:=st
  apply zQ;clear zQ
  exact⟨o,e,λ v z=>by rw[d] at z;injection z⟩
 keep:=λ i h h' st k=>st.at λ o e=>k it (by simp) o e
 item:=by
  intro X hP hw hK hc i pins s σ H E I hf st hg
  subst hP hw hK
  refine bc λ zQ=>?_
  obtain⟨xs,x,hq,hx⟩:=hg
  obtain⟨its,rv,p,hz⟩:=I.tuple hq
  obtain⟨u,hu,ru⟩:=rv.get hx
  obtain⟨f0,f1,f2,f3,f4,f5⟩:=hf it (by simp)
  apply zQ;clear zQ
  refine wpAny_pyNext_tuple_item st (show s.heap.IsTuple a its.toArray from p) (x:=u) (by simpa using hu) λ h' st' sb=>?_
  have I1:Inv X pins σ H {s with heap:=h'}:=I.turned (t':=s.toks) (λ b o hb e=>(sb.2 b hb).trans e) f0 f1 f3 f4 f5
  refine bc λ zQ=>?_
  obtain⟨o,e,c,d⟩:=id st'
  apply zQ;clear zQ
  exact⟨u,rfl,go_of (s:={s with heap:=h'}) e c d (by decide) ⟨x,H,I1,ru,⟨rfl,λ ys hy=>by rw[I.tuple_inj hy hq];exact hx⟩,st',λ b hb=>(hf b hb).1⟩⟩
 done:=by
  intro X hP hw hK hc i pins s σ H E I hf st hg
  subst hP hw hK
  refine bc λ zQ=>?_
  obtain⟨xs,hq,hx⟩:=hg
  obtain⟨its,rv,p,hz⟩:=I.tuple hq
  obtain⟨f0,f1,f2,f3,f4,f5⟩:=hf it (by simp)
  apply zQ;clear zQ
  have hl:=rv.length
  exact wpAny_pyNext_tuple_end (I.ok.hd hc) st (show s.heap.IsTuple a its.toArray from p) (by simp;exact PB hl hx) λ h' eb=>⟨rfl,I.turned (t':=s.toks) (λ b o hb e=>eb b o hb e) f0 f1 f3 f4 f5⟩
 self:=λ Z Z Z Z Z st h=>wpAny_pyIter_tupleiter st h
theorem turn_range {P:Program} {w:World} {K:PySem.W.Frag} {tg:Expr} (it:Addr) (lo:Int) (n:Nat):Turn P w K tg (Itr lo n) [it] it (λ i h=>IsRangeIter h it (lo+(i:Nat)*1) ((n:Int) - (i:Nat)) 1) where
 mem:=by simp
 obj :=λ i h st b hb=>by
  have e:b=it:=by simpa using hb
  subst e
  exact⟨_,st,λ v z=>by
   have z':Data.fields _=Data.cell v:=z
   injection z'⟩
 keep:=λ i h h' st k=>k it (by simp) _ st
 item:=by
  intro X hP hw hK hc i pins s σ H E I hf st hg
  subst hP hw hK
  refine bc λ zQ=>?_
  obtain⟨f0,f1,f2,f3,f4,f5⟩:=hf it (by simp)
  apply zQ;clear zQ
  have W:=Walks.range (prog:=X.prog) (w:=X.w) (I.ok.hd hc) it lo 1 n
  refine W.item i s _ _ hg st λ v h' tk hv st' kk=>?_
  refine bc λ zQ=>?_
  obtain⟨t,rfl⟩:=hv
  apply zQ;clear zQ
  have I1:Inv X pins σ H {s with heap:=h',toks:=tk}:=I.turned (λ b o hb e=>kk b o (by simpa using hb) e) f0 f1 f3 f4 f5
  refine⟨_,rfl,go_of (s:={s with heap:=h',toks:=tk}) (n:= "range_iterator") st' rfl rfl (by decide) ⟨.int (lo+i),H,I1,⟨t,?_⟩,⟨rfl,rfl⟩,st',λ b hb=>(hf b hb).1⟩⟩
  rw[Int.mul_one]
 done:=by
  intro X hP hw hK hc i pins s σ H E I hf st hg
  subst hP hw hK
  refine bc λ zQ=>?_
  obtain⟨f0,f1,f2,f3,f4,f5⟩:=hf it (by simp)
  apply zQ;clear zQ
  exact wpAny_pyNext_range_end (I.ok.hd hc) st (by have:n<=i:=hg;exact oq2 this) λ h' eb=>⟨rfl,I.turned (t':=s.toks) (λ b o hb e=>eb b o hb e) f0 f1 f3 f4 f5⟩
 self:=λ Z Z Z Z Z st h=>wpAny_pyIter_rangeiter st h
end L2
namespace L2
open PySem PySem.Spec PyProof.Rows
section
variable {X:Cx} {tg:Expr}
theorem range_it {pins:List (Addr×Obj)} {σ:St} {H:Hp} {s:Shared} {R:It->Hp->Prop} {E:Value->Shared->Prop} {lo hi:Int} {t u v:Tok} {tk:Nat} (I:Inv X pins σ H s) (h1: -(2 ^ 62)<=lo) (h2:lo < 2 ^ 62) (h3: -(2 ^ 62)<=hi) (h4:hi < 2 ^ 62)
  (q:R (Itr lo (hi - lo).toNat) H):wpAny (model X.prog X.w) X.A (pyIter (.ref s.heap.objs.size)) (PIE X pins σ tg R) E {s with heap:=s.heap.push {cls:= .type "range",data:= .fields #[.int lo t,.int hi u,.int 1 v]},toks:=tk}:=by
 refine wpAny_pyIter_range (IsRange.new ..) (small_one h1 h2 h3 h4) ?_
 have I1:Inv X pins σ H {s with heap:=s.heap.push {cls:= .type "range",data:= .fields #[.int lo t,.int hi u,.int 1 v]},toks:=tk}:=I.kept λ b o e=>Heap.get?_push_of_some _ e
 refine⟨(s.heap.push {cls:= .type "range",data:= .fields #[.int lo t,.int hi u,.int 1 v]}).objs.size,[(s.heap.push {cls:= .type "range",data:= .fields #[.int lo t,.int hi u,.int 1 v]}).objs.size],_,_,H,rfl,
  I1.kept (t':=tk) λ b o e=>Heap.get?_push_of_some _ e,turn_range _ lo (hi - lo).toNat,?_,λ b hb=>?_,q⟩
 ·have e1:lo+((0:Nat):Int)*1=lo:=by simp
  have e2:(((hi - lo).toNat:Nat):Int) - ((0:Nat):Int)=Builtin.Range.rangeSize lo hi 1:=by rw[rangeSize_one];split <;> (first |exact oq3 (by assumption) |exact oq4 (by assumption))
  show IsRangeIter _ _ (lo+((0:Nat):Int)*1) ((((hi - lo).toNat:Nat):Int) - ((0:Nat):Int)) 1
  rw[e1,e2]
  exact Heap.get?_push_size _ rfl
 ·have e:b=(s.heap.push {cls:= .type "range",data:= .fields #[.int lo t,.int hi u,.int 1 v]}).objs.size:=by simpa using hb
  subst e
  exact I1.fpOk (z0g _) (I1.hok.fresh (z0g _))
noncomputable def iRng1 (ta:TA):TI:=λ σ H R=>ta σ H λ vs H1=>∃j:Int,vs=[.int j]/\-(2 ^ 62)<=j/\j < 2 ^ 62/\R (Itr 0 j.toNat) H1
theorem pi_range1 {a:Expr} {ta:TA} {p pos:Pos} (hg:Gl X "range") (hm:X.mg "range" =none) (ha:PA X [a] ta) (hs:autoParam (starEach [a] X.env=[(false,eval a X.env)]) bB._auto_1):PI X tg (.Call (.Name "range" p) [a] [] pos) (iRng1 ta):=by
 intro pins s σ H R I h
 refine Call_ (ld_blt I hg hm boot_range (PyProof.Rows.callWith_type1 (thn (ha pos pins s σ H _ I h) λ us s1 ⟨vs,H1,I1,r1,q1⟩=>?_) hs rfl))
 obtain⟨j,e,q1,q2,q⟩:=q1
 subst e
 cases r1 with
 | cons r rr=>
  cases rr
  obtain⟨t,rfl⟩:=r
  exact call_range_1 (range_it I1 (by exact z0a _) (by exact z0a _) q1 q2 (by simpa using q))
noncomputable def tFor (wi:TI) (g:TG) (tb:TS):TS:=λ D σ H=>wi σ H λ J H1=>∃W:Nat->Nat->St->Hp->Prop,(∃m,W 0 m σ H1)/\∀i m σ H,W i m σ H->
 (J.stop i H/\D.nx σ H)\/(J.go i H/\∃N:St->Hp->Prop,(∀σ' H',N σ' H'->∃m',m' < m/\W (i+1) m' σ' H')/\∀x H',J.yld i H x H'->g x σ H' λ σ2 H2=>tb {D with nx:=N,ct:=N,bk:=D.nx} σ2 H2)
noncomputable def pinsAt (fp:List Addr) (h:Heap):List (Addr×Obj):=fp.filterMap λ b=>(h.get? b).map λ o=>(b,o)
theorem mem_pinsAt {fp:List Addr} {h:Heap} {b:Addr} {o:Obj} (hb:b∈fp) (e:h.get? b=some o):(b,o)∈pinsAt fp h:=List.mem_filterMap.mpr ⟨b,hb,by rw[e];rfl⟩
theorem of_pinsAt {fp:List Addr} {h:Heap} {p:Addr×Obj} (hp:p∈pinsAt fp h):p.1∈fp/\h.get? p.1=some p.2:=by
 obtain⟨b,hb,e⟩:=List.mem_filterMap.mp hp
 cases q:h.get? b with
 |none=>rw[q] at e;injection e
 | some o=>
  rw[q] at e
  have e':(b,o)=p:=Option.some.inj e
  subst e'
  exact⟨hb,q⟩
theorem Inv.pinned {pins:List (Addr×Obj)} {σ:St} {H:Hp} {s:Shared} {fp:List Addr} (I:Inv X pins σ H s) (hf:∀b∈fp,FpOk X pins H b) (ho:∀b∈fp,∃o,s.heap.get? b=some o/\∀v,o.data≠.cell v):Inv X (pins++pinsAt fp s.heap) σ H s:=
 I.pins_of λ p hp=>(List.mem_append.mp hp).elim (λ z=>I.pin p (List.mem_append_right _ z)) λ z=>by
  refine bc λ zQ=>?_
  obtain⟨hb,e⟩:=of_pinsAt z
  obtain⟨f0,f1,f2,_⟩:=hf p.1 hb
  obtain⟨o,e',d⟩:=ho p.1 hb
  apply zQ;clear zQ
  rw[e] at e';(injection e' with aH;subst aH)
  exact⟨e,f0,f1,f2,d⟩
theorem Inv.unpinned {pins pl:List (Addr×Obj)} {σ:St} {H:Hp} {s:Shared} (I:Inv X (pins++pl) σ H s):Inv X pins σ H s:=I.pins_of λ p hp=>I.pin p (List.mem_append_right _ (List.mem_append_left _ hp))
inductive afb (X:Cx) (pins:List (Addr×Obj)) (tn:Nat->Heap->Prop) (fp:List Addr) (W:Nat->Nat->St->Hp->Prop) (n:Nat) (s':Shared):Prop
 |mk (i:Nat) (σ':St) (H':Hp) (I:Inv X pins σ' H' s') (st:tn i s'.heap) (fr:∀b∈fp,H' b=none) (w:W i n σ' H'):afb X pins tn fp W n s'
theorem ps_for {iter:Expr} {body:List Stmt} {wi:TI} {g:TG} {tb:TS} {pos:Pos} (hp:PassesOwn (model X.prog X.w) X.A X.env X.xe) (hc:X.calm=true) (hi:PI X tg iter wi) (hg:PG X tg g) (hb:PSs X body tb)
  (hs:autoParam (∀x,foldedSetIterable iter X.env x=pure x) ZL._auto_1):PS X (.For tg iter body [] pos) (tFor wi g tb):=by
 intro pins s σ H D I h
 refine wpAny_For (thn (hi pins s σ H _ I h) λ v s1 h1=>thn h1 λ itv s2 h2=>?_) hs
 obtain⟨it,fp,tn,J,H2,e,I2,T,st2,f2,W,⟨m0,w0⟩,turn⟩:=h2
 subst e
 have stat:∀{H':Hp},(∀b∈fp,H' b=none)->∀b∈fp,FpOk X pins H' b:=λ hn b hb=>⟨hn b hb,(f2 b hb).2⟩
 refine codeAny_forLoop_any (λ n s'=>afb X pins tn fp W n s') ?_ m0 ⟨0,σ,H2,I2,st2,λ b hb=>(f2 b hb).1,w0⟩
 rintro n s3 ⟨i,σ3,H3,I3,st3,fr3,w3⟩
 rcases turn i n σ3 H3 w3 with⟨stop,qn⟩ |⟨go,N,hN,step⟩
 ·refine wpAny_passesOwn hp (thn (T.done X rfl rfl rfl hc i pins s3 σ3 H3 X.xe I3 (stat fr3) st3 stop) λ r s4 bY=>?_)
  obtain⟨hr,I4⟩:=bY
  subst hr
  exact wpAny_execs_nil ⟨σ3,H3,I4,qn⟩
 ·refine wpAny_passesOwn hp (thn (T.item X rfl rfl rfl hc i pins s3 σ3 H3 X.xe I3 (stat fr3) st3 go) λ r s4 bY=>?_)
  obtain⟨u,hr,h4⟩:=bY
  subst hr
  refine wpAny_passesOwn hp (thn h4 λ Z s5 bY=>?_)
  obtain⟨x,H5,I5,r5,y5,st5,fr5⟩:=bY
  have I5':=I5.pinned (stat fr5) (T.obj _ _ st5)
  refine wpAny_passesOwn hp (thn (hg _ s5 σ3 H5 x u _ I5' r5 (step x H5 y5)) λ Z s6 bY=>?_)
  obtain⟨σ6,H6,I6,q6⟩:=bY
  refine wpAny_passesOwn hp (thn (hb _ s6 σ6 H6 _ I6 q6) λ f s7 q7=>?_)
  have again:∀{σ7:St} {H7:Hp},Inv X (pins++pinsAt fp s5.heap) σ7 H7 s7->N σ7 H7->∃m,m < n/\afb X pins tn fp W m s7:=λ {σ7 H7} I7 n7=>by
   obtain⟨m',hm,w7⟩:=hN σ7 H7 n7
   refine⟨m',hm,i+1,σ7,H7,I7.unpinned,T.keep _ _ _ st5 λ b hb o e=>(I7.pin (b,o) (List.mem_append_right _ (List.mem_append_right _ (mem_pinsAt hb e)))).1,λ b hb=>?_,w7⟩
   obtain⟨o,e,d⟩:=T.obj _ _ st5 b hb
   exact (I7.pin (b,o) (List.mem_append_right _ (List.mem_append_right _ (mem_pinsAt hb e)))).2.1
  cases f with
  |next=>obtain⟨σ7,H7,I7,n7⟩:=q7;exact again I7 n7
  |cont=>obtain⟨σ7,H7,I7,n7⟩:=q7;exact again I7 n7
  |brk=>obtain⟨σ7,H7,I7,q7⟩:=q7;exact⟨σ7,H7,I7.unpinned,q7⟩
  |ret v=>obtain⟨x7,σ7,H7,I7,r7,q7⟩:=q7;exact⟨x7,σ7,H7,I7.unpinned,r7,q7⟩
end
end L2
namespace L2
open PySem PySem.Spec PyProof.Rows
noncomputable abbrev R2:=V->V->Hp->VK->Prop
noncomputable def OpR (X:Cx) (f:Value->Value->Sem Value) (r:R2):Prop:=
 ∀ (pins:List (Addr×Obj)) (s:Shared) (σ:St) (H:Hp) (x y:V) (v u:Value) (Q:VK),Inv X pins σ H s->RelV x v->RelV y u->r x y H Q->
  wpAny (model X.prog X.w) X.A (f v u) (EP X pins σ Q) X.xe s
noncomputable def UnR (X:Cx) (f:Value->Sem Value) (r:V->Hp->VK->Prop):Prop:=
 ∀ (pins:List (Addr×Obj)) (s:Shared) (σ:St) (H:Hp) (x:V) (v:Value) (Q:VK),Inv X pins σ H s->RelV x v->r x H Q->
  wpAny (model X.prog X.w) X.A (f v) (EP X pins σ Q) X.xe s
noncomputable def CallR (X:Cx) (f:Value) (r:List V->Hp->VK->Prop):Prop:=
 ∀ (pins:List (Addr×Obj)) (s:Shared) (σ:St) (H:Hp) (xs:List V) (us:List Value) (Q:VK),Inv X pins σ H s->Vals xs us->r xs H Q->
  wpAny (model X.prog X.w) X.A (call f us) (EP X pins σ Q) X.xe s
noncomputable def TruR (X:Cx) (r:V->Hp->(Bool->Hp->Prop)->Prop):Prop:=
 ∀ (pins:List (Addr×Obj)) (s:Shared) (σ:St) (H:Hp) (x:V) (v:Value) (Q:Bool->Hp->Prop),Inv X pins σ H s->RelV x v->r x H Q->
  wpAny (model X.prog X.w) X.A (truthy v) (TP X pins σ Q) X.xe s
noncomputable def tOp (r:R2) (ta tb:TE):TE:=λ σ H Q=>ta σ H λ x H1=>tb σ H1 λ y H2=>r x y H2 Q
noncomputable def tUn (r:V->Hp->VK->Prop) (ta:TE):TE:=λ σ H Q=>ta σ H λ x H1=>r x H1 Q
noncomputable def rI (C:Int->Int->Prop) (g:Int->Int->V):R2:=λ x y H Q=>∃i j,x= .int i/\y= .int j/\C i j/\Q (g i j) H
noncomputable def rI0 (g:Int->Int->V):R2:=λ x y H Q=>∃i j,x= .int i/\y= .int j/\Q (g i j) H
noncomputable def rU (g:Int->V):V->Hp->VK->Prop:=λ x H Q=>∃i,x= .int i/\Q (g i) H
section
variable {X:Cx} {a b c:Expr} {ta tb tc:TE} {pos:Pos}
theorem binT (ha:PE X a ta) (hb:PE X b tb) {pins:List (Addr×Obj)} {s:Shared} {σ:St} {H:Hp} {R:V->V->Hp->Prop} (I:Inv X pins σ H s)
  (h:ta σ H λ x H1=>tb σ H1 λ y H2=>R x y H2) {Q:Value->Shared->Prop} {f:Value->Value->Sem Value}
  (hf:∀v u s2 x y H2,Inv X pins σ H2 s2->RelV x v->RelV y u->R x y H2->wpAny (model X.prog X.w) X.A (f v u) Q X.xe s2):
  wpAny (model X.prog X.w) X.A (eval a X.env) (λ v s₁=>wpAny (model X.prog X.w) X.A (eval b X.env) (λ u s₂=>wpAny (model X.prog X.w) X.A (f v u) Q X.xe s₂) X.xe s₁) X.xe s:=by
 refine thn (ha pins s σ H _ I h) λ v s1 bY=>?_
 obtain⟨x,H1,I1,r1,q1⟩:=bY
 refine thn (hb pins s1 σ H1 _ I1 q1) λ u s2 bY=>?_
 obtain⟨y,H2,I2,r2,q2⟩:=bY
 exact hf v u s2 x y H2 I2 r1 r2 q2
theorem pe_op {op:Operator} {r:R2} (ho:OpR X (binaryOp op) r) (ha:PE X a ta) (hb:PE X b tb):PE X (.BinOp a op b pos) (tOp r ta tb):=by
 intro pins s σ H Q I h
 exact wpAny_BinOp (binT ha hb I h λ v u s2 x y H2 I2 rx ry q=>ho pins s2 σ H2 x y v u Q I2 rx ry q)
theorem pe_un {op:UnaryOp} {r:V->Hp->VK->Prop} (ho:UnR X (unaryOp op) r) (ha:PE X a ta):PE X (.UnaryOp op a pos) (tUn r ta):=by
 intro pins s σ H Q I h
 exact UnaryOp_ (thn (ha pins s σ H _ I h) λ v s1 ⟨x,H1,I1,r1,q1⟩=>ho pins s1 σ H1 x v Q I1 r1 q1)
theorem opI {f:Value->Value->Sem Value} {C:Int->Int->Prop} {g:Int->Int->Int}
  (rule:∀(i j:Int) (t u:Tok) (s:Shared) (Q:Value->Shared->Prop) (E:Value->Shared->Prop),C i j->Q (.int (g i j) s.toks) {s with toks:=s.toks+1}->wpAny (model X.prog X.w) X.A (f (.int i t) (.int j u)) Q E s):
  OpR X f (rI C λ i j=> .int (g i j)):=by
 intro pins s σ H x y v u Q I rx ry h
 obtain⟨i,j,rfl,rfl,hc,q⟩:=h
 obtain⟨t,rfl⟩:=rx
 obtain⟨t',rfl⟩:=ry
 exact rule i j t t' s _ _ hc ⟨.int (g i j),H,I.tok _,⟨_,rfl⟩,q⟩
theorem opI0 {f:Value->Value->Sem Value} {g:Int->Int->Int}
  (rule:∀(i j:Int) (t u:Tok) (s:Shared) (Q:Value->Shared->Prop) (E:Value->Shared->Prop),Q (.int (g i j) s.toks) {s with toks:=s.toks+1}->wpAny (model X.prog X.w) X.A (f (.int i t) (.int j u)) Q E s):
  OpR X f (rI0 λ i j=> .int (g i j)):=by
 intro pins s σ H x y v u Q I rx ry h
 obtain⟨i,j,rfl,rfl,q⟩:=h
 obtain⟨t,rfl⟩:=rx
 obtain⟨t',rfl⟩:=ry
 exact rule i j t t' s _ _ ⟨.int (g i j),H,I.tok _,⟨_,rfl⟩,q⟩
theorem opB0 {f:Value->Value->Sem Value} {g:Int->Int->Bool}
  (rule:∀(i j:Int) (t u:Tok) (s:Shared) (Q:Value->Shared->Prop) (E:Value->Shared->Prop),Q (.bool (g i j)) s->wpAny (model X.prog X.w) X.A (f (.int i t) (.int j u)) Q E s):
  OpR X f (rI0 λ i j=> .bl (g i j)):=by
 intro pins s σ H x y v u Q I rx ry h
 obtain⟨i,j,rfl,rfl,q⟩:=h
 obtain⟨t,rfl⟩:=rx
 obtain⟨t',rfl⟩:=ry
 exact rule i j t t' s _ _ ⟨.bl (g i j),H,I,rfl,q⟩
noncomputable def CPow (i j:Int):Prop:=0<=j/\j<=1000000/\i.natAbs < 2 ^ 64
noncomputable def CMul (i j:Int):Prop:=(-(2 ^ 64) < i/\i < 2 ^ 64)\/(-(2 ^ 64) < j/\j < 2 ^ 64)
theorem CMul.ok {i j:Int} (h:CMul i j):IntMulOk i j:=by
 rcases h with⟨h1,h2⟩ |⟨h1,h2⟩
 ·exact .of_left (intBits_le_64 h1 h2)
 ·exact .of_right (intBits_le_64 h1 h2)
theorem op_add:OpR X (binaryOp .Add) (rI0 λ i j=> .int (i+j)):=opI0 λ Z Z Z Z Z Z Z q=>add_int q
theorem op_sub:OpR X (binaryOp .Sub) (rI0 λ i j=> .int (i - j)):=opI0 λ Z Z Z Z Z Z Z q=>sub_int q
theorem op_mul:OpR X (binaryOp .Mult) (rI CMul λ i j=> .int (i*j)):=opI λ Z Z Z Z Z Z Z hc q=>mul_int q hc.ok
theorem op_mod:OpR X (binaryOp .Mod) (rI (λ Z j=>0 < j) λ i j=> .int (i % j)):=opI λ i j Z Z Z Z Z hc q=>by
 have h1:(0:Int) < j:=hc
 exact mod_int' (by exact oq5 hc) (by rw[Int.fmod_eq_emod_of_nonneg i (by exact Int.le_of_lt hc)];exact q)
theorem op_pow:OpR X (binaryOp .Pow) (rI CPow λ i j=> .int (i ^ j.toNat)):=opI λ Z Z Z Z Z Z Z hc q=>pow_int_small hc.1 hc.2.1 hc.2.2 q
theorem unI {f:Value->Sem Value} {g:Int->Int}
  (rule:∀(i:Int) (t:Tok) (s:Shared) (Q:Value->Shared->Prop) (E:Value->Shared->Prop),Q (.int (g i) s.toks) {s with toks:=s.toks+1}->wpAny (model X.prog X.w) X.A (f (.int i t)) Q E s):
  UnR X f (rU λ i=> .int (g i)):=by
 intro pins s σ H x v Q I rx h
 obtain⟨i,rfl,q⟩:=h
 obtain⟨t,rfl⟩:=rx
 exact rule i t s _ _ ⟨.int (g i),H,I.tok _,⟨_,rfl⟩,q⟩
theorem un_neg:UnR X (unaryOp .USub) (rU λ i=> .int (-i)):=unI λ Z Z Z Z Z q=>neg_int q
end
section
variable {X:Cx} {a b c:Expr} {ta tb tc:TE} {pos:Pos}
theorem fin_bl {pins:List (Addr×Obj)} {σ:St} {H:Hp} {s:Shared} {Q:VK} {k k':Bool} (I:Inv X pins σ H s) (q:Q (.bl k) H) (e:k=k'):EP X pins σ Q (.bool k') s:=by
 subst e
 exact⟨.bl k,H,I,rfl,q⟩
theorem op_lt:OpR X (compareOp .Lt) (rI0 λ i j=> .bl (decide (i < j))):=opB0 λ Z Z Z Z Z Z Z q=>lt_int q
theorem op_le:OpR X (compareOp .LtE) (rI0 λ i j=> .bl (decide (i<=j))):=opB0 λ Z Z Z Z Z Z Z q=>le_int q
theorem op_gt:OpR X (compareOp .Gt) (rI0 λ i j=> .bl (decide (j < i))):=opB0 λ Z Z Z Z Z Z Z q=>gt_int q
theorem op_ge:OpR X (compareOp .GtE) (rI0 λ i j=> .bl (decide (j<=i))):=opB0 λ Z Z Z Z Z Z Z q=>ge_int q
theorem op_isN:OpR X (compareOp .Is) (λ x y H Q=>y= .non/\Q (.bl (decide (x= .non))) H):=by
 intro pins s σ H x y v u Q I rx ry h
 obtain⟨rfl,q⟩:=h
 obtain rfl:=ry
 refine is_none_gen (fin_bl I q ?_)
 cases x <;> first
  |(obtain rfl:=rx;rfl)
  |(obtain⟨t,rfl⟩:=rx;rfl)
theorem op_notN:OpR X (compareOp .IsNot) (λ x y H Q=>y= .non/\Q (.bl (!decide (x= .non))) H):=by
 intro pins s σ H x y v u Q I rx ry h
 obtain⟨rfl,q⟩:=h
 obtain rfl:=ry
 refine isnot_none_gen (fin_bl I q ?_)
 cases x <;> first
  |(obtain rfl:=rx;rfl)
  |(obtain⟨t,rfl⟩:=rx;rfl)
theorem OpR.or {f:Value->Value->Sem Value} {r r':R2} (h:OpR X f r) (h':OpR X f r'):OpR X f (λ x y H Q=>r x y H Q\/r' x y H Q):=by
 intro pins s σ H x y v u Q I rx ry q
 rcases q with q |q
 ·exact h pins s σ H x y v u Q I rx ry q
 ·exact h' pins s σ H x y v u Q I rx ry q
theorem nomark (b:Expr) {op:CmpOp} (h:autoParam (op≠.In) dM._auto_1) (h2:autoParam (op≠.NotIn) dM._auto_1):behindInMarks op b=false:=by
 have e1:(op ==CmpOp.In)=false:=by cases op <;> first |rfl |exact absurd rfl h
 have e2:(op ==CmpOp.NotIn)=false:=by cases op <;> first |rfl |exact absurd rfl h2
 cases b with
 |Set elts k _=>show (k ==0 && (op == .In || op == .NotIn) && elts.all (constantsAlone 8))=false;rw[e1,e2,Bool.or_false,Bool.and_false,Bool.false_and]
 |_=>rfl
theorem pe_cmpR {op:CmpOp} {r:R2} (ho:OpR X (compareOp op) r) (ha:PE X a ta) (hb:PE X b tb) (hm:behindInMarks op b=false):PE X (.Compare a [op] [b] pos) (tOp r ta tb):=by
 intro pins s σ H Q I h
 exact wpAny_Compare1 (binT ha hb I h λ v u s2 x y H2 I2 rx ry q=>ho pins s2 σ H2 x y v u Q I2 rx ry q) hm
noncomputable def tTest (t:TE):TT:=λ σ H Q=>t σ H λ x H'=>∃k,x= .bl k/\Q k H'
theorem pt_cmpR {op:CmpOp} {r:R2} (ho:OpR X (compareOp op) r) (ha:PE X a ta) (hb:PE X b tb) (hm:behindInMarks op b=false):PT X (.Compare a [op] [b] pos) (tTest (tOp r ta tb)):=by
 intro pins s σ H Q I h
 refine wpAny_isTrue_Compare1 (thn (ha pins s σ H _ I h) λ v s1 ⟨x,H1,I1,r1,q1⟩=>thn (hb pins s1 σ H1 _ I1 q1) λ u s2 ⟨y,H2,I2,r2,q2⟩=>
  thn (ho pins s2 σ H2 x y v u _ I2 r1 r2 q2) λ c s3 ⟨z,H3,I3,r3,k,e,q3⟩=>?_) hm
 subst e
 obtain rfl:=r3
 exact wpAny_truthy_bool ⟨H3,I3,q3⟩
noncomputable def tChain (r r':R2) (ta tb tc:TE):TE:=λ σ H Q=>ta σ H λ x H1=>tb σ H1 λ y H2=>r x y H2 λ z H3=>∃k,z= .bl k/\
 (if k=true then tc σ H3 λ w' H4=>r' y w' H4 Q else Q (.bl false) H3)
theorem pe_chain {op op':CmpOp} {r r':R2} (ho:OpR X (compareOp op) r) (ho':OpR X (compareOp op') r') (ha:PE X a ta) (hb:PE X b tb) (hc:PE X c tc)
  (hm:autoParam (lastMarks [op,op'] [b,c]=false) ap8._auto_1):PE X (.Compare a [op,op'] [b,c] pos) (tChain r r' ta tb tc):=by
 intro pins s σ H Q I h
 refine Compare_chain (thn (ha pins s σ H _ I h) λ v s1 ⟨x,H1,I1,r1,q1⟩=>chain_link (thn (hb pins s1 σ H1 _ I1 q1) λ u s2 ⟨y,H2,I2,r2,q2⟩=>
  thn (ho pins s2 σ H2 x y v u _ I2 r1 r2 q2) λ d s3 ⟨z,H3,I3,r3,k,e,q3⟩=>?_)) hm
 subst e
 obtain rfl:=r3
 refine wpAny_truthy_bool ?_
 cases k with
 |false=>exact ite_ff ⟨.bl false,H3,I3,rfl,q3⟩
 |true=>exact ite_tt (chain_last (thn (hc pins s3 σ H3 _ I3 q3) λ w' s4 ⟨z',H4,I4,r4,q4⟩=>ho' pins s4 σ H4 y z' u w' Q I4 r2 r4 q4))
noncomputable def TruV (K:PySem.W.Frag) (x:V) (H:Hp) (k:Bool):Prop:=
 match x with
 | .non=>k=false
 | .bl b=>k=b
 | .int i=>k=(i !=0)
 | .str y=>y.length<=sizeLine/\k=((y.length:Int) !=0)
 | .byt y=>y.size<=sizeLine/\k=((y.size:Int) !=0)
 | .ref p=>(∃xs,SqL K H p xs/\k= !xs.isEmpty)\/(∃xs,SqT K H p xs/\k= !xs.isEmpty)\/∃kvs,H p=some (.dK kvs)/\k= !kvs.isEmpty
 |_=>False
theorem isEmpty_kv {κ:Type} {kvs:List (κ×V)} {vs:List (κ×Value)} (r:KV kvs vs):(!vs.isEmpty)= !kvs.isEmpty:=by
 cases r <;> rfl
theorem isEmpty_of {xs:List V} {its:List Value} (r:Vals xs its):(!its.toArray.isEmpty)= !xs.isEmpty:=by
 cases r <;> simp
theorem line63:(sizeLine:Nat) < 2 ^ 63:=by rw[sizeLine_eq];decide
theorem tru_ok:TruR X (λ x H Q=>∃k,TruV X.K x H k/\Q k H):=by
 intro pins s σ H x v Q I rx h
 obtain⟨k,e,q⟩:=h
 have hl:=line63
 have hs:sizeLine=16777216:=sizeLine_eq
 cases x with
 | non=>
  obtain rfl:=rx
  have e':k=false:=e
  subst e'
  exact truthy_none ⟨H,I,q⟩
 | bl b=>
  obtain rfl:=rx
  have e':k=b:=e
  subst e'
  exact wpAny_truthy_bool ⟨H,I,q⟩
 | int i=>
  obtain⟨t,rfl⟩:=rx
  have e':k=(i !=0):=e
  subst e'
  exact PySem.P.truthy_int ⟨H,I,q⟩
 | str y=>
  obtain⟨t,rfl⟩:=rx
  obtain⟨hy,e'⟩:y.length<=sizeLine/\k=((y.length:Int) !=0):=e
  subst e'
  exact PySem.P.truthy_str (by exact alI hy hl) ⟨H,I.tok _,q⟩
 | byt y=>
  obtain⟨t,rfl⟩:=rx
  obtain⟨hy,e'⟩:y.size<=sizeLine/\k=((y.size:Int) !=0):=e
  subst e'
  exact PySem.W.truthy_bytes (by exact oq6 hy hs) ⟨H,I.tok _,q⟩
 | ref p=>
  obtain rfl:=rx
  have e':(∃xs,SqL X.K H p xs/\k= !xs.isEmpty)\/(∃xs,SqT X.K H p xs/\k= !xs.isEmpty)\/∃kvs,H p=some (.dK kvs)/\k= !kvs.isEmpty:=e
  rcases e' with⟨xs,hx,e'⟩ |⟨xs,hx,e'⟩ |⟨kvs,hx,e'⟩
  ·subst e'
   obtain⟨its,r,pl,hz⟩:=I.list hx
   have hlen:=r.length
   exact wpAny_truthy_list pl.isList (by simp only[List.size_toArray];omega) ⟨H,I.tok _,by rw[isEmpty_of r];exact q⟩
  ·subst e'
   obtain⟨its,r,pl,hz⟩:=I.tuple hx
   have hlen:=r.length
   exact truthy_tuple pl (by simp only[List.size_toArray];omega) ⟨H,I.tok _,by rw[isEmpty_of r];exact q⟩
  ·subst e'
   obtain⟨hz,hS,vs,r,m⟩:kvs.length<=sizeLine/\(p ==sysModules)=false/\∃vs,KV kvs vs/\s.heap.DictOf (mixKind X.prog X.w) p vs:=I.hok p _ hx
   have hlen:kvs.length=vs.length:=Paired.length r
   exact wpAny_truthy_dict hS m (by omega) ⟨H,I.tok _,by rw[isEmpty_kv r];exact q⟩
 |_=>exact (show False from e).elim
theorem pt_truth (ha:PE X a ta) (he:∀whole,isTrue a X.env whole=(do let v <-whole;standAt a.pos;holding [v] (truthy v))):
  PT X a (λ σ H Q=>ta σ H λ x H'=>∃k,TruV X.K x H' k/\Q k H'):=by
 intro pins s σ H Q I h
 exact isTrue_plain (thn (ha pins s σ H _ I h) λ v s1 ⟨x,H1,I1,r1,q1⟩=>tru_ok pins s1 σ H1 x v Q I1 r1 q1) (he _)
theorem vals1 {x:V} {us:List Value} (r:Vals [x] us):∃u,us=[u]/\RelV x u:=by
 cases r with
 |cons r1 r2=>cases r2;exact⟨_,rfl,r1⟩
theorem vals2 {x y:V} {us:List Value} (r:Vals [x,y] us):∃u w',us=[u,w']/\RelV x u/\RelV y w':=by
 cases r with
 | cons r1 r2=>
  cases r2 with
  |cons r3 r4=>cases r4;exact⟨_,_,rfl,r1,r3⟩
theorem call_abs:CallR X (.builtin "abs") (λ xs H Q=>∃i,xs=[.int i]/\Q (.int (if i < 0 then -i else i)) H):=by
 intro pins s σ H xs us Q I r h
 obtain⟨i,rfl,q⟩:=h
 obtain⟨u,rfl,t,rfl⟩:=vals1 r
 exact call_abs_int λ u tk=>⟨.int (if i < 0 then -i else i),H,I.tok _,⟨_,rfl⟩,q⟩
theorem call_max2 (hc:X.calm=true):CallR X (.builtin "max") (λ xs H Q=>∃i j,xs=[.int i,.int j]/\Q (.int (if j > i then j else i)) H):=by
 intro pins s σ H xs us Q I r h
 obtain⟨i,j,rfl,q⟩:=h
 obtain⟨u,w',rfl,⟨t,rfl⟩,⟨t',rfl⟩⟩:=vals2 r
 refine max_two_ints (I.ok.hd hc) λ h' tk k=>⟨_,H,I.kept k,?_,q⟩
 by_cases hj:j > i
 ·rw[if_pos hj,if_pos hj];exact⟨_,rfl⟩
 ·rw[if_neg hj,if_neg hj];exact⟨_,rfl⟩
theorem call_min2 (hc:X.calm=true):CallR X (.builtin "min") (λ xs H Q=>∃i j,xs=[.int i,.int j]/\Q (.int (if j < i then j else i)) H):=by
 intro pins s σ H xs us Q I r h
 obtain⟨i,j,rfl,q⟩:=h
 obtain⟨u,w',rfl,⟨t,rfl⟩,⟨t',rfl⟩⟩:=vals2 r
 refine min_two_ints (I.ok.hd hc) λ h' tk k=>⟨_,H,I.kept k,?_,q⟩
 by_cases hj:j < i
 ·rw[if_pos hj,if_pos hj];exact⟨_,rfl⟩
 ·rw[if_neg hj,if_neg hj];exact⟨_,rfl⟩
end
end L2
namespace L2
open PySem PySem.Spec PyProof.Rows
section
variable {prog:Program} {w:World} {A:Around} {E:Value->Shared->Prop} {s:Shared} {K:PySem.W.Frag} {x dx C f:Addr} {mA:Str->Option Value} {name:Str} {v:Value}
end
section
variable {P:Program} {w:World} {H H':Hp} {h h':Heap} {a C dx:Addr} {fs fs':List (Str×V)}
end
section
variable {X:Cx} {pins:List (Addr×Obj)} {σ:St} {H:Hp} {s:Shared} {a C dx:Addr} {fs:List (Str×V)} {f:Str} {v:V} {A:Around} {E:Value->Shared->Prop}
end
section
variable {X:Cx} {o e value:Expr} {f:Str} {pos pos' tpos:Pos} {ta tv:TE}
end
section
variable {X:Cx} {pins:List (Addr×Obj)} {σ:St} {H:Hp} {s:Shared} {A:Around} {E:Value->Shared->Prop} {Q:Value->Shared->Prop} {c:Value} {b:Bool}
end
end L2
namespace L2
open PySem PySem.Spec PyProof.Rows
structure Room (k:Nat) (A:Around):Prop where
 hd:A.handled=none
 dp:A.depth+3*k+5 < recursionLimit
 un:A.units+16*k+200 < cLine
theorem Room.mono {j k:Nat} {A:Around} (r:Room k A) (h:j<=k):Room j A:=⟨r.hd,by have:=r.dp;exact oq8 this h,by have:=r.un;exact oq7 this h⟩
theorem Room.deeper {k:Nat} {A:Around} (r:Room (k+1) A) (env:Env):Room k (A.deeper env):=
 ⟨r.hd,by have:=r.dp;show A.depth+1+3*k+5 < _;exact anb this,by have:=r.un;show A.units+3+16*k+200 < _;exact oq9 this⟩
theorem Room.depth {k:Nat} {A:Around} (r:Room k A):A.depth < recursionLimit:=by have:=r.dp;exact anc this
noncomputable def tNil:TA:=λ Z H Q=>Q [] H
noncomputable def tCons (ta:TE) (tr:TA):TA:=λ σ H Q=>ta σ H λ x H1=>tr σ H1 λ xs H2=>Q (x::xs) H2
section
variable {X:Cx} {e:Expr} {es:List Expr} {te:TE} {t:TA} {pos:Pos}
theorem pa_nil:PA X [] tNil:=λ Z Z Z Z H Q I h=>Calls.spliced_nil ⟨[],H,I,.nil,h⟩
theorem pa_cons (ha:PE X e te) (hr:PA X es t) (hs:autoParam (starEach (e::es) X.env=(false,eval e X.env)::starEach es X.env) bB._auto_1):PA X (e::es) (tCons te t):=by
 intro pos pins s σ H Q I h
 rw[hs]
 show wpAny _ _ (spliced ((false,eval e X.env)::backTo pos (starEach es X.env))) _ _ s
 refine Calls.spliced_cons (thn (ha pins s σ H _ I h) λ u s1 bY=>?_)
 obtain⟨x,H1,I1,r1,q1⟩:=bY
 refine thn (hr pos pins s1 σ H1 _ I1 q1) λ us s2 bY=>?_
 obtain⟨xs,H2,I2,r2,q2⟩:=bY
 exact⟨x::xs,H2,I2,.cons r1 r2,q2⟩
noncomputable def tTup (t:TA):TE:=λ σ H Q=>t σ H λ xs H1=>xs.length<=sizeLine/\∀p,H1 p=none->Q (.ref p) (upd H1 p (.tup xs))
noncomputable def tLst (t:TA):TE:=λ σ H Q=>t σ H λ xs H1=>xs.length<=sizeLine/\∀p,H1 p=none->Q (.ref p) (upd H1 p (.lst xs))
theorem pe_tup {x1} (h:PA X es t):PE X (.Tuple es x1 pos) (tTup t):=by
 intro pins s σ H Q I hq
 refine wpAny_Tuple_spliced (thn (h pos pins s σ H _ I hq) λ us s1 ⟨xs,H1,I1,r,z,q⟩=>⟨by rw[<-r.length];exact z,?_⟩)
 have hf:H1 s1.heap.objs.size=none:=I1.hok.fresh (z0g _)
 refine⟨.ref s1.heap.objs.size,upd H1 s1.heap.objs.size (.tup xs),I1.laid (t':=s1.toks) (λ b u e=>Heap.get?_push_of_some _ e) (z0g _) ?_,rfl,q _ hf⟩
 exact⟨z,us,r,⟨_,Heap.get?_push_size _ rfl,rfl,_,rfl⟩⟩
theorem pe_lst (h:PA X es t):PE X (.List es pos) (tLst t):=by
 intro pins s σ H Q I hq
 refine wpAny_List_spliced (thn (h pos pins s σ H _ I hq) λ us s1 ⟨xs,H1,I1,r,z,q⟩=>⟨by rw[<-r.length];exact z,?_⟩)
 have hf:H1 s1.heap.objs.size=none:=I1.hok.fresh (z0g _)
 refine⟨.ref s1.heap.objs.size,upd H1 s1.heap.objs.size (.lst xs),I1.laid (t':=s1.toks) (λ b u e=>Heap.get?_push_of_some _ e) (z0g _) ?_,rfl,q _ hf⟩
 exact⟨z,us,0,r,Heap.get?_push_size _ rfl⟩
end
noncomputable abbrev Sp:=List V->Hp->VK->XK->Prop
noncomputable abbrev CXT:=List Env->Hp->Shared->XK->Value->Shared->Prop
structure Env0 (P:Program) (w:World) (K:PySem.W.Frag) (mg:Str->Option Value) (base:Heap) (A:Around) (outer:List Env) (s:Shared) (H:Hp):Prop where
 frames:A.frames=some outer
 mod:Mod K mg base
 bs:∀b o,base.get? b=some o->s.heap.get? b=some o/\H b=none
 bsz:base.objs.size<=s.heap.objs.size
 funs:s.heap.FunFrames base outer
 frf:∀b∈frs outer,H b=none
 hok:HOk P w H s.heap
 bare:AllBare s.gens
inductive CE (outer:List Env) (P:Program) (w:World) (H:Hp) (s:Shared) (Q:VK) (u:Value) (s':Shared):Prop
 |mk (v:V) (H':Hp) (os:s'.os=s.os) (bare:AllBare s'.gens) (un:Un (frs outer) [] H H' s.heap s'.heap) (hok:HOk P w H' s'.heap) (r:RelV v u) (q:Q v H'):CE outer P w H s Q u s'
noncomputable def CR (CX:CXT) (outer:List Env) (P:Program) (w:World) (H:Hp) (s:Shared) (Q:VK) (E:XK) (r:Result) (s':Shared):Prop:=
 match r with
 | .ok (.ret u)=>CE outer P w H s Q u s'
 | .ok _=>False
 | .error e=>CX outer H s E e s'
structure FnOk (P:Program) (w:World) (K:PySem.W.Frag) (mg:Str->Option Value) (base:Heap) (CX:CXT) (k:Nat) (f:Addr) (fd:FuncData) (ps:List Str) (sp:Sp):Prop where
 len:∀vs H Q E,sp vs H Q E->vs.length=ps.length
 run:∀(A:Around) (outer:List Env) (s:Shared) (H:Hp) (args:Args) (us:List Value) (vs:List V) (Q:VK) (E:XK),Room k A->Env0 P w K mg base A outer s H->BindsTo s fd args (ps.zip us)->Vals vs us->sp vs H Q E->
  codeAny (model P w) A (.call (.ref f) args) (CR CX outer P w H s Q E) s
theorem FnOk.mono {P:Program} {w:World} {K:PySem.W.Frag} {mg:Str->Option Value} {base:Heap} {CX:CXT} {j k:Nat} {f:Addr} {fd:FuncData} {ps:List Str} {sp:Sp} (F:FnOk P w K mg base CX j f fd ps sp) (h:j<=k):
  FnOk P w K mg base CX k f fd ps sp:=⟨F.len,λ A outer s H args us vs Q E hr=>F.run A outer s H args us vs Q E (hr.mono h)⟩
section
variable {X:Cx} {pins:List (Addr×Obj)} {σ:St} {H:Hp} {s s':Shared}
theorem Inv.env0 (I:Inv X pins σ H s):Env0 X.prog X.w X.K X.mg X.base X.A X.stack s H:=
 ⟨I.ok.frames,I.ok.mod,I.bs,z0b I.ok.bsz I.sz,I.stack,I.stkFree,I.hok,I.bare⟩
theorem Inv.after {Q:VK} {u:Value} (I:Inv X pins σ H s) (h:CE X.stack X.prog X.w H s Q u s'):EP X pins σ Q u s':=by
 obtain⟨v,H',os,bare,un,hok,r,q⟩:=h
 obtain⟨hh,g,d,t,os'⟩:=s'
 obtain rfl:os'=s.os:=os
 exact⟨v,H',I.call (h':=hh) (g':=g) (d':=d) (t':=t) (ch:=[]) un hok bare (λ b z=>absurd z (by simp)),r,q⟩
end
noncomputable def tCall (sp:Sp) (dvs:List V) (E:XK) (t:TA):TE:=λ σ H Q=>t σ H λ vs H1=>sp (vs++dvs) H1 Q E
noncomputable def Binds (K:PySem.W.Frag) (fd:FuncData) (ps:List Str) (ds:List Value):Prop:=
 ∀(s:Shared) (us:List Value),K.In s.heap->(us++ds).length=ps.length->BindsTo s fd ⟨us,[]⟩ (ps.zip (us++ds))
theorem Binds.all {K:PySem.W.Frag} {fd:FuncData} {ps:List Str} (h:∀us:List Value,us.length=ps.length->bindArgs fd ⟨us,[]⟩=pure (ps.zip us)):Binds K fd ps []:=λ s us Z hl=>by
 rw[List.append_nil] at hl |-
 exact .of_eq (h us hl)
noncomputable def Passes (CX:CXT) (X:Cx) (E:XK):Prop:=∀(pins:List (Addr×Obj)) (σ:St) (H:Hp) (s:Shared) (e:Value) (s':Shared),Inv X pins σ H s->CX X.stack H s E e s'->X.xe e s'
section
variable {X:Cx} {CX:CXT} {k:Nat} {f C:Addr} {fd:FuncData} {ps:List Str} {sp:Sp} {dvs:List V} {ds:List Value} {E:XK} {x m:Str} {p pos apos:Pos} {e o:Expr} {es:List Expr} {ta:TE} {t:TA}
theorem run_fn {pins:List (Addr×Obj)} {σ:St} {H:Hp} {s:Shared} {Q:VK} {us:List Value} {vs:List V} (F:FnOk X.prog X.w X.K X.mg X.base CX k f fd ps sp) (hr:Room k X.A) (hb:Binds X.K fd ps ds) (hd:Vals dvs ds) (hx:Passes CX X E)
  (I:Inv X pins σ H s) (r:Vals vs us) (h:sp (vs++dvs) H Q E):wpAny (model X.prog X.w) X.A (call (.ref f) us) (EP X pins σ Q) X.xe s:=by
 have r2:Vals (vs++dvs) (us++ds):=r.append hd
 have hl:(us++ds).length=ps.length:=by rw[<-r2.length];exact F.len _ _ _ _ h
 refine wpAny_call (codeAny_mono (F.run X.A X.stack s H ⟨us,[]⟩ (us++ds) (vs++dvs) Q E hr I.env0 (hb s us I.kIn hl) r2 h) λ r s' hq=>?_)
 cases r with
 |error e=>exact hx pins σ H s e s' I hq
 | ok fl=>
  cases fl with
  |ret u=>exact I.after hq
  |next=>exact False.elim hq
  |brk=>exact False.elim hq
  |cont=>exact False.elim hq
theorem pe_call (F:FnOk X.prog X.w X.K X.mg X.base CX k f fd ps sp) (hr:Room k X.A) (hg:Gl X x) (hm:X.mg x=some (.ref f)) (hk:PySem.W.keepIn X.K (.ref f)=true) (hb:Binds X.K fd ps ds) (hd:Vals dvs ds) (hx:Passes CX X E)
  (ha:PA X (e::es) t) (hdb:autoParam ((x ==("__debug__" :Str))=false) dM._auto_1) (he:autoParam (starEach (e::es) X.env=(false,eval e X.env)::starEach es X.env) bB._auto_1) (hpl:autoParam ((backTo pos (starEach es X.env)).any (·.1)=false) bB._auto_1):
  PE X (.Call (.Name x p) (e::es) [] pos) (tCall sp dvs E t):=by
 intro pins s σ H Q I h
 refine wpAny_Call_Name_kw (ld_glob I hg hm ?_ hdb)
 refine PySem.W.callWith_K (h₀:=X.base) I.ok.mod.kin hk (thn (ha pos pins s σ H _ I h) λ us s1 ⟨vs,H1,I1,r,q⟩=>⟨I1.kIn,?_⟩) he hpl
 exact run_fn F hr hb hd hx I1 r q
end
noncomputable def PK (X:Cx) (kws:List Keyword) (t:TA):Prop:=
 ∀(pos:Pos) (pins:List (Addr×Obj)) (s:Shared) (σ:St) (H:Hp) (Q:List V->Hp->Prop),Inv X pins σ H s->t σ H Q->wpAny (model X.prog X.w) X.A (evalAll ((backToKw pos (keywordEach kws X.env)).map (·.2))) (AP X pins σ Q) X.xe s
section
variable {X:Cx} {CX:CXT} {k:Nat} {f C:Addr} {fd:FuncData} {ps ks:List Str} {sp:Sp} {E:XK} {x m:Str} {p pos apos kpos:Pos} {e o:Expr} {es:List Expr} {kws:List Keyword} {te ta:TE} {t tk:TA} {nm:Option Str}
theorem pk_nil:PK X [] tNil:=λ Z Z Z Z H Q I h=>wpAny_evalAll_nil ⟨[],H,I,.nil,h⟩
theorem pk_cons (ha:PE X e te) (hr:PK X kws t):PK X (⟨nm,e,kpos⟩::kws) (tCons te t):=by
 intro pos pins s σ H Q I h
 show wpAny _ _ (evalAll ((do let v <-eval e X.env;standAt pos;pure v)::(backToKw pos (keywordEach kws X.env)).map (·.2))) _ _ s
 refine wpAny_evalAll_cons (wpAny_bind (thn (ha pins s σ H _ I h) λ u s1 ⟨x,H1,I1,r1,q1⟩=>wpAny_bind (wpAny_standAt (wpAny_pure ?_))))
 refine thn (hr pos pins s1 σ H1 _ I1 q1) λ us s2 bY=>?_
 obtain⟨xs,H2,I2,r2,q2⟩:=bY
 exact⟨x::xs,H2,I2,.cons r1 r2,q2⟩
variable {g:List Value->List Value->List Value} {gV:List V->List V->List V}
end
structure FnScope (N P:List Str) (sc:Scope):Prop where
 kind:sc.kind= .function
 co:sc.isCoroutine=false
 gen:sc.isGenerator=false
 nd:N.Nodup
 pre:N.take P.length=P
 par:∀x∈P,sc.names.lookup x=some .local\/sc.names.lookup x=some .cell
 nofree:∀y∈sc.names,y.2≠.free
theorem bindL_out {kindOf:Str->Option NameKind} {x:Str}:∀{binds:List (Str×Value)} {m:Str->Option Value},(∀v,(x,v)∉binds)->bindL kindOf binds m x=m x
 |[],_,_=>rfl
 | (n,v)::r,m,h=>by
  unfold bindL
  rw[bindL_out λ w hw=>h w (List.mem_cons_of_mem _ hw)]
  split
  ·have:x≠n:=by rintro rfl;exact h v List.mem_cons_self
   simp[this]
  ·rfl
theorem bindC_out {kindOf:Str->Option NameKind} {x:Str}:∀{binds:List (Str×Value)} {m:Str->Option Value},(∀v,(x,v)∉binds)->bindC kindOf binds m x=m x
 |[],_,_=>rfl
 | (n,v)::r,m,h=>by
  unfold bindC
  rw[bindC_out λ w hw=>h w (List.mem_cons_of_mem _ hw)]
  split
  ·rfl
  ·have:x≠n:=by rintro rfl;exact h v List.mem_cons_self
   simp[this]
theorem bindL_get {kindOf:Str->Option NameKind} {x:Str} {v:Value}:∀{P:List Str} {vs:List Value} {i:Nat} {m:Str->Option Value},P.Nodup->P[i]?=some x->vs[i]?=some v->kindOf x=some .local->
  bindL kindOf (P.zip vs) m x=some v
 |[],_,_,_,_,h,_,_=>by simp at h
 |_::_,[],_,_,_,_,h,_=>by simp at h
 | p::P,w::vs,0,m,nd,h1,h2,hk=>by
  simp at h1 h2;subst h1;subst h2
  show bindL kindOf ((p,w)::P.zip vs) m p=_
  unfold bindL
  rw[bindL_out λ v hv=>(List.nodup_cons.mp nd).1 (List.of_mem_zip hv).1,if_pos hk]
  simp
 | p::P,w::vs,i+1,m,nd,h1,h2,hk=>by
  show bindL kindOf ((p,w)::P.zip vs) m x=_
  unfold bindL
  exact bindL_get (i:=i) (List.nodup_cons.mp nd).2 (by simpa using h1) (by simpa using h2) hk
theorem bindC_get {kindOf:Str->Option NameKind} {x:Str} {v:Value}:∀{P:List Str} {vs:List Value} {i:Nat} {m:Str->Option Value},P.Nodup->P[i]?=some x->vs[i]?=some v->kindOf x≠some .local->
  bindC kindOf (P.zip vs) m x=some v
 |[],_,_,_,_,h,_,_=>by simp at h
 |_::_,[],_,_,_,_,h,_=>by simp at h
 | p::P,w::vs,0,m,nd,h1,h2,hk=>by
  simp at h1 h2;subst h1;subst h2
  show bindC kindOf ((p,w)::P.zip vs) m p=_
  unfold bindC
  rw[bindC_out λ v hv=>(List.nodup_cons.mp nd).1 (List.of_mem_zip hv).1,if_neg hk]
  simp
 | p::P,w::vs,i+1,m,nd,h1,h2,hk=>by
  show bindC kindOf ((p,w)::P.zip vs) m x=_
  unfold bindC
  exact bindC_get (i:=i) (List.nodup_cons.mp nd).2 (by simpa using h1) (by simpa using h2) hk
noncomputable def start (N:List Str) (vs:List V):St:=vs.map some++List.replicate (N.length - vs.length) none
noncomputable def cxOf (CX:CXT) (P:Program) (w:World) (K:PySem.W.Frag) (mg:Str->Option Value) (base:Heap) (N:List Str) (qual:Str) (scope:Scope) (f:Addr) (cd:Value) (A:Around) (outer:List Env) (s:Shared) (H:Hp) (E:XK):Cx where
 prog:=P
 w:=w
 K:=K
 mg:=mg
 base:=base
 A:=A.deeper (envOfC qual scope s.heap.objs.size f cd)
 N:=N
 s₀:=s
 H₀:=H
 env:=envOfC qual scope s.heap.objs.size f cd
 outer:=outer
 stack:=envOfC qual scope s.heap.objs.size f cd::outer
 ex:=[]
 calm:=true
 fn:=λ Z=>true
 pn:=[]
 xe:=λ e s'=>wpAny (model P w) (A.deeper (envOfC qual scope s.heap.objs.size f cd)) (leaving (envOfC qual scope s.heap.objs.size f cd) e) (λ Z s''=>CX outer H s E e s'') (λ e' s''=>CX outer H s E e' s'') s'
theorem cell_has {sc:Scope} {n:Nat} {x:Str} (h:sc.names.lookup x=some .cell):∃c,(cellsFrom n sc.names []).lookup x=some c:=by
 have q:=PySem.W.cellsFrom_some sc.names n [] (.inl h)
 exact Option.isSome_iff_exists.mp q
theorem inv_start {CX:CXT} {P:Program} {w:World} {K:PySem.W.Frag} {mg:Str->Option Value} {base:Heap} {N ps:List Str} {qual:Str} {scope:Scope} {f:Addr} {cd:Value} {A:Around} {outer:List Env} {s s1:Shared} {H:Hp} {E:XK} {us:List Value} {vs:List V}
  (S:FnScope N ps scope) (hd:A.handled=none) (e0:Env0 P w K mg base A outer s H) (hl:vs.length=ps.length) (r:Vals vs us)
  (x:InCallC s s.heap.objs.size (bindL (envOfC qual scope s.heap.objs.size f cd).kindOf (ps.zip us) λ Z=>none) (cellsFrom (s.heap.objs.size+1) scope.names []) (bindC (envOfC qual scope s.heap.objs.size f cd).kindOf (ps.zip us) λ Z=>none) s1):
  Inv (cxOf CX P w K mg base N qual scope f cd A outer s H E) [] (start N vs) H s1:=by
 have hpl:ps.length<=N.length:=by have:=congrArg List.length S.pre;rw[List.length_take] at this;exact ane this
 obtain⟨h1,tk,rfl,hk⟩:=x.done
 have noA:∀b:Addr,b∉(cxOf CX P w K mg base N qual scope f cd A outer s H E).ex:=λ b z=>absurd (show b∈([]:List Addr) from z) (by simp)
 refine⟨⟨e0.mod,S.kind,rfl,rfl,z0g _,λ y z c h1 h2=>?_,λ y hy=>?_,λ y c Z h=>?_,λ Z=>hd,Around.frames_deeper e0.frames,.inr ⟨rfl,rfl⟩,λ b z=>absurd z (noA b),e0.bs,e0.bsz,λ b Z Z=>noA b,λ b z=>absurd z (noA b),e0.funs,e0.frf⟩,
  rfl,e0.bare,Un.kept hk,⟨_,x.toInCall.ns,λ i y v h1 h2 h3=>?_⟩,λ y c h=>⟨_,x.cell y c h⟩,e0.hok.fresh (z0g _),λ y c h=>?_,λ p hp=>absurd (show p∈([]:List (Addr×Obj)) from hp) (by simp),e0.hok.kept hk,?_⟩
 ·exact name_of_addr x.apart (PySem.mem_of_lookup h1) (PySem.mem_of_lookup h2)
 ·have hy:scope.names.lookup y=some .cell\/scope.names.lookup y=some .free:=hy
  rcases hy with hy |hy
  ·exact cell_has hy
  ·exact absurd rfl (S.nofree _ (PySem.mem_of_lookup hy))
 ·exact z0e (x.above y c (PySem.mem_of_lookup h))
 ·have hi:i < vs.length:=by
   unfold start at h2
   by_cases hi:i < vs.length
   ·exact hi
   ·rw[List.getElem?_append_right (by simpa using hi)] at h2
    rw[List.getElem?_replicate] at h2
    split at h2 <;> (first |(injection h2 with aH;injection aH) |injection h2)
  have ha:vs[i]?=some v:=by
   unfold start at h2
   rw[List.getElem?_append_left (by simpa using hi),List.getElem?_map] at h2
   cases e:vs[i]? with
   |none=>rw[e] at h2;injection h2
   |some a=>rw[e] at h2;cases h2;rfl
  obtain⟨u,hu,rv⟩:=r.get ha
  have hp:ps[i]?=some y:=by
   rw[<-S.pre,List.getElem?_take_of_lt (by exact aie hi hl)];exact h1
  have ndP:ps.Nodup:=by rw[<-S.pre];exact S.nd.sublist (List.take_sublist _ _)
  refine⟨u,rv,?_⟩
  rcases S.par y (List.mem_of_getElem? hp) with k |k
  ·exact .inl ⟨k,bindL_get ndP hp hu k⟩
  ·obtain⟨c,e⟩:=cell_has (n:=s.heap.objs.size+1) k
   refine .inr ⟨.inl k,c,e,?_⟩
   have q:=x.cell y c e
   rw[bindC_get ndP hp hu (by show scope.names.lookup y≠_;rw[k];decide)] at q
   exact q
 ·exact e0.hok.fresh (z0e (x.above y c (PySem.mem_of_lookup h)))
 ·unfold start
  show _=N.length
  rw[List.length_append,List.length_map,List.length_replicate]
  exact anf hl hpl
theorem fn_of {CX:CXT} {P:Program} {w:World} {K:PySem.W.Frag} {mg:Str->Option Value} {base:Heap} {k:Nat} {f:Addr} {name qual:Str} {params:Arguments} {body:List Stmt} {scope:Scope} {dV kV doc pm cdv ct oc:Value} {an od:Option Addr}
  {osl:Array (Option Value)} {N ps:List Str} {sp:Sp} (lk:K.lookup f=some ⟨oc,od,.func (PySem.W.fnOf name qual params body scope dV kV doc pm an cdv ct),osl⟩) (hcd:PySem.W.codeIn K cdv qual=true) (S:FnScope N ps scope)
  (len:∀vs H Q E,sp vs H Q E->vs.length=ps.length)
  (hbody:∀(A:Around) (outer:List Env) (s:Shared) (H:Hp) (vs:List V) (Q:VK) (E:XK),Room k (A.deeper (envOfC qual scope s.heap.objs.size f cdv))->sp vs H Q E->
   ∃t,PSs (cxOf CX P w K mg base N qual scope f cdv A outer s H E) body t/\t {nx:=λ Z H'=>Q .non H',rt:=Q} (start N vs) H):
  FnOk P w K mg base CX (k+1) f (PySem.W.fnOf name qual params body scope dV kV doc pm an cdv ct) ps sp:=by
 refine⟨len,λ A outer s H args us vs Q E hr e0 hb r hsp=>?_⟩
 have hl:=len _ _ _ _ hsp
 have KX:K.In s.heap:=e0.mod.kin.keeps λ b o e=>(e0.bs b o e).1
 have lim:s.heap.NoLimit:=e0.mod.nolimit.keeps λ b o e=>(e0.bs b o e).1
 have hkind:∀y∈ps.zip us,scope.names.lookup y.1=some .local\/(scope.names.lookup y.1=some .cell/\((cellsFrom (s.heap.objs.size+1) scope.names []).lookup y.1).isSome=true):=λ ⟨n,v⟩ hy=>by
  rcases S.par n (List.of_mem_zip hy).1 with q |q
  ·exact .inl q
  ·exact .inr ⟨q,PySem.W.cellsFrom_some _ _ _ (.inl q)⟩
 refine codeAny_call_function hr.depth (KX _ _ lk) rfl S.co S.gen rfl (PySem.W.codeRec_of KX hcd) (hb _ _ _ _ ?_)
 refine wpAny_newFunctionEnv_cells S.kind hkind λ env he s1 x=>?_
 subst he
 refine⟨lim.keeps x.toInCall.keep,codeAny_func ?_⟩
 obtain⟨t,ht,hq⟩:=hbody A outer s H vs Q E (hr.deeper _) hsp
 have I:Inv (cxOf CX P w K mg base N qual scope f cdv A outer s H E) [] (start N vs) H s1:=inv_start S hr.hd e0 hl r x
 refine wpAny_mono (ht [] s1 (start N vs) H _ I hq) (λ fl s' hs=>?_) λ e s' hs=>hs
 have fin:∀{σ':St} {H':Hp} {v:V} {u:Value},Inv (cxOf CX P w K mg base N qual scope f cdv A outer s H E) [] σ' H' s'->RelV v u->Q v H'->CE outer P w H s Q u s':=
  λ {σ' H' v u} J rv q=>⟨v,H',J.os,J.bare,J.base,J.hok,rv,q⟩
 cases fl with
 | ret u=>
  obtain⟨v,σ',H',J,rv,q⟩:=hs
  exact fin J rv q
 | next=>
  obtain⟨σ',H',J,q⟩:=hs
  exact fin (v:=V.non) (u:=Value.none) J rfl q
 | brk=>
  obtain⟨_,_,_,q⟩:=hs
  exact False.elim q
 | cont=>
  obtain⟨_,_,_,q⟩:=hs
  exact False.elim q
end L2
namespace L2
open PySem PySem.Spec PyProof.Rows
section
variable {X:Cx} {x:Str} {p pos:Pos} {e:Expr} {es:List Expr} {t:TA} {id T:String} {r:List V->Hp->VK->Prop}
noncomputable def tCB (r:List V->Hp->VK->Prop) (t:TA):TE:=λ σ H Q=>t σ H λ vs H1=>r vs H1 Q
theorem pe_callB (hc:CallR X (.builtin id) r) (hg:Gl X x) (hm:X.mg x=none) (hv:bootBuiltins x=some (.builtin id)) (ha:PA X (e::es) t) (hn:autoParam (x≠"__name__") dM._auto_1) (hdb:autoParam ((x ==("__debug__" :Str))=false) dM._auto_1)
  (he:autoParam (starEach (e::es) X.env=(false,eval e X.env)::starEach es X.env) bB._auto_1) (hpl:autoParam ((backTo pos (starEach es X.env)).any (·.1)=false) bB._auto_1):PE X (.Call (.Name x p) (e::es) [] pos) (tCB r t):=by
 intro pins s σ H Q I h
 refine wpAny_Call_Name_kw (ld_blt I hg hm hv ?_ hn hdb)
 exact PyProof.Rows.callWith_builtin1 (thn (ha pos pins s σ H _ I h) λ us s1 ⟨vs,H1,I1,r1,q1⟩=>hc pins s1 σ H1 vs us Q I1 r1 q1) he hpl
theorem pe_callTy (hc:CallR X (.type T) r) (hg:Gl X x) (hm:X.mg x=none) (hv:bootBuiltins x=some (.type T)) (ha:PA X (e::es) t) (hn:autoParam (x≠"__name__") dM._auto_1) (hdb:autoParam ((x ==("__debug__" :Str))=false) dM._auto_1)
  (he:autoParam (starEach (e::es) X.env=(false,eval e X.env)::starEach es X.env) bB._auto_1) (hpl:autoParam ((backTo pos (starEach es X.env)).any (·.1)=false) bB._auto_1):PE X (.Call (.Name x p) (e::es) [] pos) (tCB r t):=by
 intro pins s σ H Q I h
 refine wpAny_Call_Name_kw (ld_blt I hg hm hv ?_ hn hdb)
 exact PyProof.Rows.callWith_type1 (thn (ha pos pins s σ H _ I h) λ us s1 ⟨vs,H1,I1,r1,q1⟩=>hc pins s1 σ H1 vs us Q I1 r1 q1) he hpl
end
end L2
namespace HT
open PySem PyProof.Rows
section
open PySem.SeqAt
open PySem.AutoSeq1 (wpAny_loadPart')
open PySem.MeetsSeq PySem.MeetsSeq2 PySem.MeetsSeq3
end
section
variable {prog:Program} {w:World} {A:Around} {E:Value->Shared->Prop} {s:Shared}
theorem cat_tup {t b:Addr} {vs ws:List Value} {Q:Value->Shared->Prop} (ht:IsTup s.heap t vs.toArray) (hb:IsTup s.heap b ws.toArray) (hv:vs≠[])
  (h1:ws=[]->Q (.ref t) s) (h2:ws≠[]->Q (.ref s.heap.objs.size) {s with heap:=s.heap.push {cls:= .type "tuple",data:= .seq (vs++ws).toArray}})
  (hsz:vs.length+ws.length<=sizeLine):wpAny (model prog w) A (binaryOp .Add (.ref t) (.ref b)) Q E s:=by
 refine bc λ zQ=>?_
 obtain⟨⟨cls,dd,data,sl⟩,ho,hc,n,hd⟩:=id ht
 obtain⟨⟨cls2,dd2,data2,sl2⟩,ho2,hc2,n2,hd2⟩:=id hb
 apply zQ;clear zQ
 simp only at hc hd hc2 hd2
 subst hc hd hc2 hd2
 have e:vs.toArray++ws.toArray=(vs++ws).toArray:=by simp
 by_cases hw:ws=[]
 ·exact concat_meets ⟨_,ho,rfl⟩ ⟨_,ho2,rfl⟩ noFill_tuple_add seq_tuple_add PySem.F.slot_tuple_add PySem.F.entry_tuple_add (PySem.F.args_tuple_add_2 _ _)
   (tuple_addW1 t b vs.toArray ws.toArray n n2 dd dd2 sl sl2 (by simpa using hv) (by simp[hw])) ⟨ho,ho2,h1 hw⟩
 ·refine concat_meets ⟨_,ho,rfl⟩ ⟨_,ho2,rfl⟩ noFill_tuple_add seq_tuple_add PySem.F.slot_tuple_add PySem.F.entry_tuple_add (PySem.F.args_tuple_add_2 _ _)
   (tuple_addW2 t b vs.toArray ws.toArray n n2 dd dd2 sl sl2 (by simpa using hv) (by simpa using hw) (by rw[List.size_toArray,List.size_toArray];exact hsz)) ⟨ho,ho2,?_⟩
  rw[e]
  exact h2 hw
noncomputable def sIx (n d:Nat):Option Int->Nat
 |none=>d
 |some v=>if v < 0 then (v+(n:Int)).toNat else min v.toNat n
theorem sIx_le (n d:Nat) (hd:d<=n) (o:Option Int):sIx n d o<=n:=by
 cases o with
 |none=>exact hd
 | some v=>
  show (if v < 0 then (v+(n:Int)).toNat else min v.toNat n)<=n
  by_cases hv:v < 0
  ·rw[if_pos hv];exact ang hv
  ·rw[if_neg hv];exact Nat.min_le_right _ _
theorem ac2 (a b:Nat):((min a b:Nat):Int)=min (a:Int) (b:Int):=by
 rcases Nat.le_total a b with h |h
 ·rw[Nat.min_eq_left h,Int.min_eq_left (Int.ofNat_le.mpr h)]
 ·rw[Nat.min_eq_right h,Int.min_eq_right (Int.ofNat_le.mpr h)]
theorem aiD {i:Int} (n:Nat) (h:i < 0):max 0 (min (i+(n:Int)) (n:Int))=(((i+(n:Int)).toNat:Nat):Int):=by
 rw[Int.min_eq_left (by exact anh h),Int.max_comm];exact (Int.ofNat_toNat _).symm
theorem aiE (k n:Nat):max 0 (min (k:Int) (n:Int))=((min (k:Int).toNat n:Nat):Int):=by
 rw[Int.max_eq_right (Int.le_min.mpr ⟨z0a _,z0a _⟩)];exact (ac2 k n).symm
theorem clip_eq (v:Int) (n d:Nat):(if v < 0 then max (v+(n:Int)) 0 else min v (n:Int))=((sIx n d (some v):Nat):Int):=by
 show (if v < 0 then max (v+(n:Int)) 0 else min v (n:Int))=(((if v < 0 then (v+(n:Int)).toNat else min v.toNat n):Nat):Int)
 by_cases hv:v < 0
 ·simp only[if_pos hv];exact (Int.ofNat_toNat _).symm
 ·simp only[if_neg hv]
  obtain⟨k,rfl⟩:=Int.eq_ofNat_of_zero_le (Int.not_lt.mp hv)
  exact (ac2 k n).symm
theorem adjust_gen (lo hi:Option Int) (n:Nat):Builtin.Slice.sliceAdjust lo hi 1 (n:Int)=(((sIx n 0 lo:Nat):Int),((sIx n n hi:Nat):Int)):=by
 have h1:¬((1:Int) < 0):=by exact ani
 unfold Builtin.Slice.sliceAdjust
 simp only[h1,if_false]
 refine Prod.ext ?_ ?_
 ·cases lo with
  |none=>rfl
  |some v=>exact clip_eq v n 0
 ·cases hi with
  |none=>rfl
  |some v=>exact clip_eq v n n
theorem places_gen (i j:Nat):Builtin.Slice.slicePlaces (i:Int) (j:Int) 1=j - i:=by
 unfold Builtin.Slice.slicePlaces
 have h1:(1:Int) > 0:=by exact z0a _
 simp only[h1,if_true,Int.ediv_one]
 split <;> (first |exact anj |exact ank (by assumption))
theorem slicePart_ {v:Value} {o:Option Int} {Q:Option Int->Shared->Prop} (p:IsPart v o) (h:Q o s):wpAny (model prog w) A (Builtin.Slice.slicePartIndex v) Q E s:=by
 cases p with
 |none=>exact slicePart_none h
 |int i t=>exact slicePart_int h
theorem sliceApplied_gen {sl:Addr} {vl vu:Value} {lo hi:Option Int} {n:Nat} {Q:Int×Int×Nat->Shared->Prop} (hs:s.heap.IsSliceOf sl vl vu .none) (pl:IsPart vl lo) (pu:IsPart vu hi)
  (h:Q (((sIx n 0 lo:Nat):Int),1,sIx n n hi - sIx n 0 lo) s):wpAny (model prog w) A (Builtin.Slice.sliceApplied (.ref sl) (pure (n:Int))) Q E s:=by
 obtain⟨os,hos,hcs,hds⟩:=id hs
 unfold Builtin.Slice.sliceApplied Builtin.Slice.sliceFields
 refine wpAny_bind (wpAny_bind (wpAny_field hos hds (x:=vl) rfl (wpAny_bind (wpAny_field hos hds (x:=vu) rfl (wpAny_bind (wpAny_field hos hds (x:= .none) rfl (wpAny_pure ?_)))))))
 refine wpAny_bind (slicePart_none ?_)
 show wpAny _ _ (if ((1:Int) ==0)=true then _ else _) _ _ s
 rw[if_neg (by decide)]
 refine wpAny_bind (slicePart_ pl (wpAny_bind (slicePart_ pu (wpAny_bind (wpAny_pure ?_)))))
 show wpAny _ _ (match Builtin.Slice.sliceAdjust lo hi 1 (n:Int) with |(lo,hi)=>pure (lo,(1:Int),Builtin.Slice.slicePlaces lo hi 1)) _ _ s
 rw[adjust_gen lo hi n]
 show wpAny _ _ (pure (((sIx n 0 lo:Nat):Int),(1:Int),Builtin.Slice.slicePlaces ((sIx n 0 lo:Nat):Int) ((sIx n n hi:Nat):Int) 1)) _ _ s
 rw[places_gen]
 exact wpAny_pure h
theorem pick_gen (xs:Array Value) (i k:Nat):((List.range k).filterMap λ (m:Nat)=>xs[((i:Int)+(m:Int)*1).toNat]?).toArray=((xs.toList.drop i).take k).toArray:=by
 have e:(λ (m:Nat)=>xs[((i:Int)+(m:Int)*1).toNat]?)=λ m=>xs[i+m]?:=by
  funext m
  have:((i:Int)+(m:Int)*1).toNat=i+m:=by exact anl
  rw[this]
 rw[e]
 have:=pick_run xs i k
 rw[List.filterMap_map] at this
 have e2:((λ x=>xs[x]?) ∘ λ x=>i+x)=λ m=>xs[i+m]?:=rfl
 rw[e2] at this
 rw[this]
theorem getItem_tuple_cut {t sl:Addr} {items:Array Value} {vl vu:Value} {lo hi:Option Int} {Q:Value->Shared->Prop} (ht:IsTup s.heap t items) (hs:s.heap.IsSliceOf sl vl vu .none) (pl:IsPart vl lo) (pu:IsPart vu hi)
  (hw:¬(sIx items.size 0 lo=0/\sIx items.size items.size hi=items.size))
  (h:Q (.ref s.heap.objs.size) {s with heap:=s.heap.push {cls:= .type "tuple",data:= .seq ((items.toList.drop (sIx items.size 0 lo)).take (sIx items.size items.size hi - sIx items.size 0 lo)).toArray}})
  (hsz:items.size<=sizeLine):wpAny (model prog w) A (getItem (.ref t) (.ref sl)) Q E s:=by
 have htake:sizeOk (.seq ((items.toList.drop (sIx items.size 0 lo)).take (sIx items.size items.size hi - sIx items.size 0 lo)).toArray):=by
  show ((items.toList.drop (sIx items.size 0 lo)).take (sIx items.size items.size hi - sIx items.size 0 lo)).toArray.size<=sizeLine
  rw[List.size_toArray,List.length_take,List.length_drop,Array.length_toList]
  exact anm hsz
 have hj:sIx items.size items.size hi<=items.size:=sIx_le _ _ (z0g _) hi
 obtain⟨os,hos,hcs,hds⟩:=id hs
 have hTs:s.TypeIs (.ref sl) "slice" :=⟨os,hos,hcs⟩
 unfold getItem
 try with_reducible refine wpAny_holding ?_
 first |refine wpAny_bind (wpAny_pure ?_) |skip
 refine wpAny_bind (wpAny_sequenceKey ht.typeIs (by decide) ?_)
 refine wpAny_bind (wpAny_callSpecial?_slot (name:=Str.ofString "__getitem__") ht.typeIs PyProof.Rows.slot_tuple_getitem
  (wpAny_call_entry PyProof.Rows.slot_tuple_getitem ht.typeIs entry_tuple_getitem ?_ (args_tuple_getitem _ _)))
 show wpAny _ _ (Builtin.Tuple.tupleItemsOf (.ref t) >>=_) _ _ s
 refine wpAny_bind (tupleItemsOf_ ht ?_)
 refine wpAny_bind (wpAny_typeOf hTs ?_)
 rw[if_pos (by decide)]
 refine wpAny_bind (sliceApplied_gen hs pl pu ?_)
 have hno:¬((((sIx items.size 0 lo:Nat):Int) ==0 && (1:Int) ==1 && (sIx items.size items.size hi - sIx items.size 0 lo) ==items.size)=true):=by
  intro q
  rw[Bool.and_eq_true,Bool.and_eq_true] at q
  have q1:((sIx items.size 0 lo:Nat):Int)=0:=eq_of_beq q.1.1
  have q2:sIx items.size items.size hi - sIx items.size 0 lo=items.size:=eq_of_beq q.2
  exact hw ⟨by exact anp q1,by exact ano q2 hj⟩
 show wpAny _ _ (if (((sIx items.size 0 lo:Nat):Int) ==0 && (1:Int) ==1 && (sIx items.size items.size hi - sIx items.size 0 lo) ==items.size)=true then _ else _) _ _ s
 rw[if_neg hno,pick_gen]
 first
  |exact wpAny_bind (m:=Builtin.Tuple.tupleExact _) (wpAny_newObj_type (wpAny_pure ⟨_,rfl,wpAny_pure h⟩) htake)
  |exact wpAny_bind (m:=Builtin.Tuple.tupleExact _) (wpAny_newObj_type (wpAny_bind (wpAny_pure (wpAny_pure ⟨_,rfl,wpAny_pure h⟩))) htake)
  |exact wpAny_bind (wpAny_bind (m:=Builtin.Tuple.tupleExact _) (wpAny_newObj_type (wpAny_pure (wpAny_pure ⟨_,rfl,wpAny_pure h⟩)) htake))
  |exact wpAny_bind (wpAny_bind (m:=Builtin.Tuple.tupleExact _) (wpAny_newObj_type (wpAny_pure ⟨_,rfl,wpAny_pure h⟩) htake))
end
end HT
namespace L2
open PySem PySem.Spec PyProof.Rows
noncomputable abbrev TO:=St->Hp->(Option Int->Hp->Prop)->Prop
noncomputable def PO (X:Cx) (e:Option Expr) (t:TO):Prop:=
 ∀ (pins:List (Addr×Obj)) (s:Shared) (σ:St) (H:Hp) (Q:Option Int->Hp->Prop),Inv X pins σ H s->t σ H Q->
  wpAny (model X.prog X.w) X.A (evalPart e X.env) (λ u s'=>∃o H',Inv X pins σ H' s'/\IsPart u o/\Q o H') X.xe s
noncomputable def tNoPart:TO:=λ Z H Q=>Q none H
noncomputable def tPart (t:TE):TO:=λ σ H Q=>t σ H λ x H1=>∃i,x= .int i/\Q (some i) H1
theorem intsAre_of {ns:List Int}:∀{us:List Value},Vals (ns.map V.int) us->IntsAre us ns:=by
 induction ns with
 |nil=>intro us r;rw[List.map_nil] at r;cases r;exact .nil
 | cons n ns ih=>
  intro us r
  rw[List.map_cons] at r
  cases r with
  | cons r1 r2=>
   obtain⟨t,e⟩:=r1
   subst e
   exact .cons n t (ih r2)
section
variable {X:Cx} {e:Expr} {te:TE} {lo hi:Option Expr} {tl th:TO} {pos p2:Pos}
theorem po_none:PO X none tNoPart:=by
 intro pins s σ H Q I h
 rw[evalPart_none]
 exact wpAny_pure ⟨none,H,I,.none,h⟩
theorem po_some (h:PE X e te):PO X (some e) (tPart te):=by
 intro pins s σ H Q I hw
 rw[evalPart_some]
 refine thn (h pins s σ H _ I hw) λ u s1 bY=>?_
 obtain⟨x,H1,I1,r1,q1⟩:=bY
 obtain⟨i,rfl,q⟩:=q1
 obtain⟨t,rfl⟩:=r1
 exact⟨some i,H1,I1,.int i t,q⟩
noncomputable def SlR (X:Cx) (r:V->Option Int->Option Int->Hp->VK->Prop):Prop:=
 ∀ (pins:List (Addr×Obj)) (s:Shared) (σ:St) (H:Hp) (x:V) (v vl vu:Value) (lo hi:Option Int) (sl:Addr) (Q:VK),Inv X pins σ H s->RelV x v->s.heap.IsSliceOf sl vl vu .none->IsPart vl lo->IsPart vu hi->r x lo hi H Q->
  ∃T id,typeLookup (.type T) "__getitem__" =pure (some (.builtin id))/\s.TypeIs v T/\wpAny (model X.prog X.w) X.A (getItem v (.ref sl)) (EP X pins σ Q) X.xe s
theorem SlR.or {r r':V->Option Int->Option Int->Hp->VK->Prop} (h:SlR X r) (h':SlR X r'):SlR X (λ x lo hi H Q=>r x lo hi H Q\/r' x lo hi H Q):=by
 intro pins s σ H x v vl vu lo hi sl Q I rx hs pl pu q
 rcases q with q |q
 ·exact h pins s σ H x v vl vu lo hi sl Q I rx hs pl pu q
 ·exact h' pins s σ H x v vl vu lo hi sl Q I rx hs pl pu q
noncomputable def tSl (r:V->Option Int->Option Int->Hp->VK->Prop) (te:TE) (tl th:TO):TE:=λ σ H Q=>te σ H λ x H1=>tl σ H1 λ l H2=>th σ H2 λ u H3=>r x l u H3 Q
theorem pe_slice {r:V->Option Int->Option Int->Hp->VK->Prop} (hr:SlR X r) (he:PE X e te) (hl:PO X lo tl) (hu:PO X hi th):PE X (.Subscript e (.Slice lo hi none p2) pos) (tSl r te tl th):=by
 intro pins s σ H Q I h
 refine Subscript_ (thn (he pins s σ H _ I h) λ v s1 bY=>?_)
 refine bc λ zQ=>?_
 obtain⟨x,H1,I1,r1,q1⟩:=bY
 apply zQ;clear zQ
 refine wpAny_Slice (thn (hl pins s1 σ H1 _ I1 q1) λ vl s2 ⟨l,H2,I2,pl,q2⟩=>thn (hu pins s2 σ H2 _ I2 q2) λ vu s3 bY=>?_)
 refine bc λ zQ=>?_
 obtain⟨u,H3,I3,pu,q3⟩:=bY
 apply zQ;clear zQ
 rw[evalPart_none]
 refine wpAny_pure ?_
 have I4:Inv X pins σ H3 {s3 with heap:=s3.heap.push {cls:= .type "slice",data:= .fields #[vl,vu,.none]}}:=I3.kept (t':=s3.toks) λ b ob q=>Heap.get?_push_of_some _ q
 refine bc λ zQ=>?_
 obtain⟨T,id,hT,ht,hg⟩:=hr pins {s3 with heap:=s3.heap.push {cls:= .type "slice",data:= .fields #[vl,vu,.none]}} σ H3 x v vl vu l u s3.heap.objs.size Q I4 r1 (Heap.IsSliceOf.new ..) pl pu q3
 apply zQ;clear zQ
 show wpAny (model X.prog X.w) X.A (subscriptTail e (.Slice lo hi none p2) v (.ref s3.heap.objs.size)) (EP X pins σ Q) X.xe {s3 with heap:=s3.heap.push {cls:= .type "slice",data:= .fields #[vl,vu,.none]}}
 exact tail_any (ops:=[.ref s3.heap.objs.size,v]) ht hT hg (by with_unfolding_all rfl)
noncomputable def cutV (xs:List V) (lo hi:Option Int):List V:=(xs.drop (HT.sIx xs.length 0 lo)).take (HT.sIx xs.length xs.length hi - HT.sIx xs.length 0 lo)
theorem cutV_length (xs:List V) (lo hi:Option Int):(cutV xs lo hi).length<=xs.length:=by
 unfold cutV
 rw[List.length_take,List.length_drop]
 exact anq
noncomputable def rSlT (K:PySem.W.Frag):V->Option Int->Option Int->Hp->VK->Prop:=λ x lo hi H Q=>∃a xs,x= .ref a/\SqT K H a xs/\
 ¬(HT.sIx xs.length 0 lo=0/\HT.sIx xs.length xs.length hi=xs.length)/\∀p,H p=none->Q (.ref p) (upd H p (.tup (cutV xs lo hi)))
theorem sl_tup:SlR X (rSlT X.K):=by
 intro pins s σ H x v vl vu lo hi sl Q I rx hs pl pu h
 refine bc λ zQ=>?_
 obtain⟨a,xs,rfl,hx,hw,q⟩:=h
 apply zQ;clear zQ
 obtain rfl:=rx
 refine bc λ zQ=>?_
 obtain⟨its,r,ht,hz⟩:=I.tuple hx
 apply zQ;clear zQ
 have hlen:its.toArray.size=xs.length:=by rw[List.size_toArray];exact r.length.symm
 refine⟨"tuple",_,PyProof.Rows.slot_tuple_getitem.lookup,ht.typeIs,?_⟩
 refine HT.getItem_tuple_cut ht hs pl pu (by rw[hlen];exact hw) ?_ (by rw[hlen];exact hz)
 rw[hlen]
 refine⟨.ref s.heap.objs.size,_,I.laid (t':=s.toks) (o:= .tup (cutV xs lo hi)) (λ b ob q=>Heap.get?_push_of_some _ q) (z0g _) ?_,rfl,q _ (I.hok.fresh (z0g _))⟩
 exact⟨z0b (cutV_length xs lo hi) hz,_,(r.drop (HT.sIx xs.length 0 lo)).take (HT.sIx xs.length xs.length hi - HT.sIx xs.length 0 lo),IsTup.new _ _⟩
noncomputable def rCatT (K:PySem.W.Frag):R2:=λ x y H Q=>∃a b xs ys,x= .ref a/\y= .ref b/\SqT K H a xs/\SqT K H b ys/\xs≠[]/\xs.length+ys.length<=sizeLine/\
 (ys=[]->Q (.ref a) H)/\(ys≠[]->∀p,H p=none->Q (.ref p) (upd H p (.tup (xs++ys))))
theorem Vals.nil_iff {xs:List V} {us:List Value} (r:Vals xs us):us=[]↔xs=[]:=by
 cases r with
 |nil=>simp
 |cons _ _=>simp
theorem op_catT:OpR X (binaryOp .Add) (rCatT X.K):=by
 intro pins s σ H x y v u Q I rx ry h
 refine bc λ zQ=>?_
 obtain⟨a,b,xs,ys,rfl,rfl,ha,hb,hx,hz,q1,q2⟩:=h
 apply zQ;clear zQ
 obtain rfl:=rx
 obtain rfl:=ry
 refine bc λ zQ=>?_
 obtain⟨its,r1,p1,_⟩:=I.tuple ha
 obtain⟨its2,r2,p2,_⟩:=I.tuple hb
 apply zQ;clear zQ
 refine HT.cat_tup p1 p2 (λ z=>hx (r1.nil_iff.mp z)) (λ z=>⟨.ref a,H,I,rfl,q1 (r2.nil_iff.mp z)⟩) (λ z=>?_) (by rw[<-r1.length,<-r2.length];exact hz)
 refine⟨.ref s.heap.objs.size,_,I.laid (t':=s.toks) (o:= .tup (xs++ys)) (λ b ob q=>Heap.get?_push_of_some _ q) (z0g _) ?_,rfl,q2 (λ w=>z (r2.nil_iff.mpr w)) _ (I.hok.fresh (z0g _))⟩
 exact⟨by rw[List.length_append];exact hz,_,r1.append r2,IsTup.new _ _⟩
end
end L2
namespace L2
open PySem PySem.Spec PyProof.Rows
noncomputable def ixN (n:Nat) (i:Int):Option Nat:=if 0<=i then (if i < n then some i.toNat else none) else if -(n:Int)<=i then some (i+n).toNat else none
noncomputable def atI {α:Type} (xs:List α) (i:Int):Option α:=(ixN xs.length i).bind λ j=>xs[j]?
theorem ixN_seq {n:Nat} {i:Int} {j:Nat} (h:ixN n i=some j):seqIndex? i n=some j/\j < n/\-(n:Int)<=i/\i < n:=by
 unfold ixN at h
 by_cases h0:0<=i
 ·rw[if_pos h0] at h
  by_cases h1:i < n
  ·rw[if_pos h1] at h
   have e:i.toNat=j:=Option.some.inj h
   exact⟨by rw[seqIndex_of h0 h1,e],by exact ant h0 e h1,by exact anr h0,h1⟩
  ·rw[if_neg h1] at h;injection h
 ·rw[if_neg h0] at h
  by_cases h1: -(n:Int)<=i
  ·rw[if_pos h1] at h
   have e:(i+n).toNat=j:=Option.some.inj h
   exact⟨by rw[seqIndex_neg (by exact Int.not_le.mp h0) h1,e],by exact anv h1 e h0,h1,by exact anu h0⟩
  ·rw[if_neg h1] at h;injection h
theorem atI_get {α:Type} {xs:List α} {i:Int} {v:α} (h:atI xs i=some v):∃j,seqIndex? i xs.length=some j/\xs[j]?=some v/\j < xs.length/\-(xs.length:Int)<=i/\i < xs.length:=by
 unfold atI at h
 cases e:ixN xs.length i with
 |none=>rw[e] at h;injection h
 | some j=>
  rw[e] at h
  obtain⟨h1,h2,h3,h4⟩:=ixN_seq e
  exact⟨j,h1,h,h2,h3,h4⟩
noncomputable def PlainIx (b:Expr):Prop:=∀o i,subscripted b false o i=operate [o,i] (getItem o i)
noncomputable def IxR (X:Cx) (r:R2):Prop:=
 ∀ (value slice:Expr) (pins:List (Addr×Obj)) (s:Shared) (σ:St) (H:Hp) (x y:V) (v u:Value) (Q:VK),Inv X pins σ H s->RelV x v->RelV y u->r x y H Q->
  subscripted slice false v u=operate [v,u] (getItem v u)->wpAny (model X.prog X.w) X.A (subscriptTail value slice v u) (EP X pins σ Q) X.xe s
noncomputable def MtR (X:Cx) (id:String) (r:V->List V->Hp->VK->Prop):Prop:=
 ∀ (pins:List (Addr×Obj)) (s:Shared) (σ:St) (H:Hp) (x:V) (xs:List V) (v:Value) (us:List Value) (Q:VK),Inv X pins σ H s->RelV x v->Vals xs us->r x xs H Q->
  wpAny (model X.prog X.w) X.A (call (.builtin id) (v::us)) (EP X pins σ Q) X.xe s
section
variable {X:Cx} {a b:Expr} {ta tb:TE} {pos:Pos}
theorem IxR.or {r r':R2} (h:IxR X r) (h':IxR X r'):IxR X (λ x y H Q=>r x y H Q\/r' x y H Q):=by
 intro value slice pins s σ H x y v u Q I rx ry q hs
 rcases q with q |q
 ·exact h value slice pins s σ H x y v u Q I rx ry q hs
 ·exact h' value slice pins s σ H x y v u Q I rx ry q hs
theorem pe_ix {r:R2} (hr:IxR X r) (ha:PE X a ta) (hb:PE X b tb) (hs:PlainIx b):PE X (.Subscript a b pos) (tOp r ta tb):=by
 intro pins s σ H Q I h
 exact Subscript_ (binT ha hb I h λ v u s2 x y H2 I2 rx ry q=>hr a b pins s2 σ H2 x y v u Q I2 rx ry q (hs _ _))
noncomputable def rIxL (K:PySem.W.Frag):R2:=λ x y H Q=>∃p xs i v,x= .ref p/\y= .int i/\SqL K H p xs/\atI xs i=some v/\Q v H
noncomputable def rIxT (K:PySem.W.Frag):R2:=λ x y H Q=>∃p xs i v,x= .ref p/\y= .int i/\SqT K H p xs/\atI xs i=some v/\Q v H
noncomputable def rIxS:R2:=λ x y H Q=>∃z i c,x= .str z/\y= .int i/\z.length<=sizeLine/\atI z.cps.toList i=some c/\Q (.str ⟨#[c]⟩) H
theorem ix_list:IxR X (rIxL X.K):=by
 intro value slice pins s σ H x y v u Q I rx ry h hs
 refine bc λ zQ=>?_
 obtain⟨p,xs,i,z,rfl,rfl,hq,he,q⟩:=h
 apply zQ;clear zQ
 obtain rfl:=rx
 refine bc λ zQ=>?_
 obtain⟨t,rfl⟩:=ry
 obtain⟨its,r,pl,hz⟩:=I.list hq
 obtain⟨j,h1,h2,h3,h4,h5⟩:=atI_get he
 obtain⟨w,ew,rw'⟩:=r.get h2
 apply zQ;clear zQ
 have hl:=r.length
 have hn:=line63
 have fin:EP X pins σ Q w s:=⟨z,H,I,rw',q⟩
 by_cases h0:0<=i
 ·have hj:i.toNat=j:=by
   rw[seqIndex_of h0 h5] at h1
   exact Option.some.inj h1
  exact item_listR pl.isList h0 (by exact agx h5 hz hn) (by rw[hj];simpa using ew) fin hs
 ·have hj:(i+(its.toArray.size:Int)).toNat=j:=by
   rw[seqIndex_neg (by exact Int.not_le.mp h0) h4] at h1
   rw[List.size_toArray,<-hl]
   exact Option.some.inj h1
  exact subscriptTail_builtinR (x:=w) pl.isList.typeIs slot_list_getitem.lookup
   (wpAny_getItem_list_neg (Q:=λ r s'=>r=w/\EP X pins σ Q r s') pl.isList (by exact Int.not_le.mp h0) (by rw[List.size_toArray] <;> exact anw h4 hl) (by exact agy h4 hz hn) (by rw[hj];simpa using ew) ⟨rfl,fin⟩) hs
theorem ix_tup:IxR X (rIxT X.K):=by
 intro value slice pins s σ H x y v u Q I rx ry h hs
 refine bc λ zQ=>?_
 obtain⟨p,xs,i,z,rfl,rfl,hq,he,q⟩:=h
 apply zQ;clear zQ
 obtain rfl:=rx
 refine bc λ zQ=>?_
 obtain⟨t,rfl⟩:=ry
 obtain⟨its,r,pl,hz⟩:=I.tuple hq
 obtain⟨j,h1,h2,h3,h4,h5⟩:=atI_get he
 obtain⟨w,ew,rw'⟩:=r.get h2
 apply zQ;clear zQ
 have hl:=r.length
 have hn:=line63
 have fin:EP X pins σ Q w s:=⟨z,H,I,rw',q⟩
 exact subscriptTail_builtinR (x:=w) pl.typeIs slot_tuple_getitem.lookup
  (getItem_tuple (j:=j) (Q:=λ r s'=>r=w/\EP X pins σ Q r s') pl (by exact agy h4 hz hn) (by exact agx h5 hz hn) (by rw[List.size_toArray,<-hl];exact h1) (by simpa using ew) ⟨rfl,fin⟩) hs
theorem ix_str:IxR X rIxS:=by
 intro value slice pins s σ H x y v u Q I rx ry h hs
 refine bc λ zQ=>?_
 obtain⟨z,i,c,rfl,rfl,hz,he,q⟩:=h
 obtain⟨t,rfl⟩:=rx
 obtain⟨t',rfl⟩:=ry
 obtain⟨j,h1,h2,h3,h4,h5⟩:=atI_get he
 apply zQ;clear zQ
 have hl:z.cps.toList.length=z.length:=by simp[Str.length]
 rw[hl] at h1 h4 h5
 have hn:=line63
 exact tail_any (typeIs_str s z t) slot_str_getitem.lookup (getItem_str (c:=c) (by
  have e1:decide (i < -(2 ^ 63:Int))=false:=decide_eq_false (by exact alJ h4 hz hn)
  have e2:decide (i>=2 ^ 63)=false:=decide_eq_false (by exact alK h5 hz hn)
  rw[e1,e2,Bool.or_false]) (by rw[h1];simpa using h2) ⟨.str ⟨#[c]⟩,H,I.tok _,⟨_,rfl⟩,q⟩) hs
noncomputable def rIx (K:PySem.W.Frag):R2:=λ x y H Q=>rIxL K x y H Q\/rIxT K x y H Q\/rIxS x y H Q
theorem ix_seq:IxR X (rIx X.K):=ix_list.or (ix_tup.or ix_str)
theorem Inv.lst {pins:List (Addr×Obj)} {σ:St} {H:Hp} {s:Shared} {p:Addr} {xs:List V} (I:Inv X pins σ H s) (h:H p=some (.lst xs)):
  ∃(its:List Value) (n:Nat),Vals xs its/\s.heap.get? p=some {cls:= .type "list",data:= .seq its.toArray n}/\xs.length<=sizeLine:=by
 obtain⟨z,its,n,r,e⟩:=I.hok p _ h
 exact⟨its,n,r,e,z⟩
theorem slice_bounds (lo hi:Option Int) (n:Nat):(sliceBounds lo hi none n).1=((HT.sIx n 0 lo:Nat):Int)/\(sliceBounds lo hi none n).2.1=((HT.sIx n n hi:Nat):Int)/\(sliceBounds lo hi none n).2.2=1:=by
 refine⟨?_,?_,rfl⟩
 ·cases lo with
  |none=>simp[sliceBounds,HT.sIx]
  | some i=>
   simp only[sliceBounds,HT.sIx,Option.getD_none,show (1:Int) > 0 by decide,if_true]
   by_cases h:i < 0
   ·simp only[h,if_true];exact HT.aiD n h
   ·simp only[h,if_false]
    obtain⟨k,rfl⟩:=Int.eq_ofNat_of_zero_le (Int.not_lt.mp h)
    exact HT.aiE k n
 ·cases hi with
  |none=>simp[sliceBounds,HT.sIx]
  | some i=>
   simp only[sliceBounds,HT.sIx,Option.getD_none,show (1:Int) > 0 by decide,if_true]
   by_cases h:i < 0
   ·simp only[h,if_true];exact HT.aiD n h
   ·simp only[h,if_false]
    obtain⟨k,rfl⟩:=Int.eq_ofNat_of_zero_le (Int.not_lt.mp h)
    exact HT.aiE k n
theorem slicePick_cut (its:List Value) (lo hi:Option Int):slicePick its.toArray lo hi none=((its.drop (HT.sIx its.length 0 lo)).take (HT.sIx its.length its.length hi - HT.sIx its.length 0 lo)).toArray:=by
 obtain⟨h1,h2,h3⟩:=slice_bounds lo hi its.toArray.size
 unfold slicePick
 rw[h1,h2,h3]
 simp only[sliceRange_one,pick_run,List.size_toArray] <;> rfl
noncomputable def rSlL (K:PySem.W.Frag):V->Option Int->Option Int->Hp->VK->Prop:=λ x lo hi H Q=>∃a xs,x= .ref a/\SqL K H a xs/\∀p,H p=none->Q (.ref p) (upd H p (.lst (cutV xs lo hi)))
theorem sl_list:SlR X (rSlL X.K):=by
 intro pins s σ H x v vl vu lo hi sl Q I rx hs pl pu h
 obtain⟨a,xs,rfl,hx,q⟩:=h
 obtain rfl:=rx
 obtain⟨its,r,ht,hz⟩:=I.list hx
 have hlen:=r.length
 refine⟨"list",_,slot_list_getitem.lookup,ht.isList.typeIs,?_⟩
 refine wpAny_getItem_list_slice ht.isList hs pl pu .none (by simp) ?_ (by rw[List.size_toArray] <;> exact PB hlen hz)
 rw[slicePick_cut,<-hlen]
 refine⟨.ref s.heap.objs.size,_,I.laid (t':=s.toks) (o:= .lst (cutV xs lo hi)) (λ b ob q=>Heap.get?_push_of_some _ q) (z0g _) ?_,rfl,q _ (I.hok.fresh (z0g _))⟩
 exact⟨z0b (cutV_length xs lo hi) hz,_,0,(r.drop (HT.sIx xs.length 0 lo)).take (HT.sIx xs.length xs.length hi - HT.sIx xs.length 0 lo),Heap.get?_push_size _ rfl⟩
noncomputable def flatV:V->Bool
 | .non=>true
 | .bl _=>true
 | .int _=>true
 | .str _=>true
 |_=>false
noncomputable def eqV:V->V->Bool
 | .non,.non=>true
 | .bl a,.bl b=>a ==b
 | .bl a,.int b=>(if a then 1 else 0) ==b
 | .int a,.bl b=>a ==(if b then 1 else 0)
 | .int a,.int b=>a ==b
 | .str a,.str b=>a ==b
 |_,_=>false
theorem eqAt_V {A:Around} {s:Shared} {y x:V} {u v:Value} (ry:RelV y u) (rx:RelV x v) (fy:flatV y=true) (fx:flatV x=true):SeqAt.EqAt A s u v (eqV y x):=by
 cases y with
 | non=>
  obtain rfl:=ry
  cases x with
  |non=>obtain rfl:=rx;exact SeqAt.EqAt.same _
  |bl b=>obtain rfl:=rx;exact SeqAt.EqAt.none_bool b
  |int b=>obtain⟨t,rfl⟩:=rx;exact SeqAt.EqAt.none_int b t
  |str b=>obtain⟨t,rfl⟩:=rx;exact SeqAt.EqAt.none_str b t
  |_=>exact absurd (show false=true from fx) Bool.false_ne_true
 | bl a=>
  obtain rfl:=ry
  cases x with
  |non=>obtain rfl:=rx;exact SeqAt.EqAt.bool_none a
  |bl b=>obtain rfl:=rx;exact SeqAt.EqAt.bool_bool a b
  |int b=>obtain⟨t,rfl⟩:=rx;exact SeqAt.EqAt.bool_int a b t
  |str b=>obtain⟨t,rfl⟩:=rx;exact SeqAt.EqAt.bool_str a b t
  |_=>exact absurd (show false=true from fx) Bool.false_ne_true
 | int a=>
  obtain⟨t',rfl⟩:=ry
  cases x with
  |non=>obtain rfl:=rx;exact SeqAt.EqAt.int_none a t'
  |bl b=>obtain rfl:=rx;exact SeqAt.EqAt.int_bool a t' b
  |int b=>obtain⟨t,rfl⟩:=rx;exact SeqAt.EqAt.int_int a t' b t
  |str b=>obtain⟨t,rfl⟩:=rx;exact SeqAt.EqAt.int_str a t' b t
  |_=>exact absurd (show false=true from fx) Bool.false_ne_true
 | str a=>
  obtain⟨t',rfl⟩:=ry
  cases x with
  |non=>obtain rfl:=rx;exact SeqAt.EqAt.str_none a t'
  |bl b=>obtain rfl:=rx;exact SeqAt.EqAt.str_bool a t' b
  |int b=>obtain⟨t,rfl⟩:=rx;exact SeqAt.EqAt.str_int a t' b t
  |str b=>obtain⟨t,rfl⟩:=rx;exact SeqAt.EqAt.str_str a t' b t
  |_=>exact absurd (show false=true from fx) Bool.false_ne_true
 |_=>exact absurd (show false=true from fy) Bool.false_ne_true
noncomputable def eqU (x:V) (u:Value):Bool:=match u with
 | .none=>eqV .non x
 | .bool b=>eqV (.bl b) x
 | .int i _=>eqV (.int i) x
 | .str z _=>eqV (.str z) x
 |_=>false
theorem eqU_of {x y:V} {u:Value} (r:RelV y u) (f:flatV y=true):eqU x u=eqV y x:=by
 cases y with
 |non=>obtain rfl:=r;rfl
 |bl b=>obtain rfl:=r;rfl
 |int i=>obtain⟨t,rfl⟩:=r;rfl
 |str z=>obtain⟨t,rfl⟩:=r;rfl
 |_=>exact absurd (show false=true from f) Bool.false_ne_true
theorem any_eqU {x:V}:∀{xs:List V} {us:List Value},Vals xs us->xs.all flatV=true->us.any (eqU x)=xs.any λ y=>eqV y x
 |_,_,.nil,_=>rfl
 | y::xs,u::us,.cons r t,f=>by
  rw[List.all_cons,Bool.and_eq_true] at f
  rw[List.any_cons,List.any_cons,eqU_of r f.1,any_eqU t f.2]
theorem mem_eqAt {A:Around} {s:Shared} {x:V} {v:Value} (rx:RelV x v) (fx:flatV x=true):∀{xs:List V} {us:List Value},Vals xs us->xs.all flatV=true->∀u∈us,SeqAt.EqAt A s u v (eqU x u)
 |_,_,.nil,_=>λ u hu=>by cases hu
 | y::xs,u::us,.cons r t,f=>λ u' hu=>by
  rw[List.all_cons,Bool.and_eq_true] at f
  rcases List.mem_cons.mp hu with rfl |hu
  ·rw[eqU_of r f.1];exact eqAt_V r rx f.1 fx
  ·exact mem_eqAt rx fx t f.2 u' hu
noncomputable def inV (x:V) (xs:List V):Bool:=xs.any λ y=>eqV y x
noncomputable def rIn (K:PySem.W.Frag) (neg:Bool):R2:=λ x y H Q=>∃p xs,y= .ref p/\(SqL K H p xs\/SqT K H p xs)/\flatV x=true/\xs.all flatV=true/\Q (.bl (if neg then !inV x xs else inV x xs)) H
theorem op_in_seq:OpR X (compareOp .In) (rIn X.K false):=by
 intro pins s σ H x y v u Q I rx ry h
 obtain⟨p,xs,rfl,hq,fx,fs,q⟩:=h
 obtain rfl:=ry
 rcases hq with hq |hq
 ·obtain⟨its,r,pl,hz⟩:=I.list hq
  refine SeqAt.in_listAt (eqU x) pl.isList (λ w hw=>mem_eqAt rx fx r fs w (by simpa using hw)) ⟨.bl _,H,I,rfl,?_⟩
  rw[show its.toArray.any (eqU x)=its.any (eqU x) by simp,any_eqU r fs]
  exact q
 ·obtain⟨its,r,pl,hz⟩:=I.tuple hq
  refine SeqAt.in_tupleAt (eqU x) pl (λ w hw=>mem_eqAt rx fx r fs w (by simpa using hw)) ⟨.bl _,H,I,rfl,?_⟩
  rw[show its.toArray.any (eqU x)=its.any (eqU x) by simp,any_eqU r fs]
  exact q
theorem op_notIn_seq:OpR X (compareOp .NotIn) (rIn X.K true):=by
 intro pins s σ H x y v u Q I rx ry h
 obtain⟨p,xs,rfl,hq,fx,fs,q⟩:=h
 obtain rfl:=ry
 rcases hq with hq |hq
 ·obtain⟨its,r,pl,hz⟩:=I.list hq
  refine SeqAt.notIn_listAt (eqU x) pl.isList (λ w hw=>mem_eqAt rx fx r fs w (by simpa using hw)) ⟨.bl _,H,I,rfl,?_⟩
  rw[show its.toArray.any (eqU x)=its.any (eqU x) by simp,any_eqU r fs]
  exact q
 ·obtain⟨its,r,pl,hz⟩:=I.tuple hq
  refine SeqAt.notIn_tupleAt (eqU x) pl (λ w hw=>mem_eqAt rx fx r fs w (by simpa using hw)) ⟨.bl _,H,I,rfl,?_⟩
  rw[show its.toArray.any (eqU x)=its.any (eqU x) by simp,any_eqU r fs]
  exact q
theorem call_len_seq:CallR X (.builtin "len") (λ xs H Q=>∃p ys,xs=[.ref p]/\(SqL X.K H p ys\/SqT X.K H p ys)/\Q (.int ys.length) H):=by
 intro pins s σ H xs us Q I r h
 obtain⟨p,ys,rfl,hq,q⟩:=h
 obtain⟨u,rfl,rx⟩:=vals1 r
 obtain rfl:=rx
 have hn:=line63
 rcases hq with hq |hq
 ·obtain⟨its,r',pl,hz⟩:=I.list hq
  have hlen:=r'.length
  exact Calls.call_len_list pl.isList (by simp only[List.size_toArray] <;> omega) ⟨.int ys.length,H,I.tok _,⟨s.toks+1,by rw[List.size_toArray,hlen]⟩,q⟩
 ·obtain⟨its,r',pl,hz⟩:=I.tuple hq
  have hlen:=r'.length
  exact len_tuple pl (by simp only[List.size_toArray] <;> omega) ⟨.int ys.length,H,I.tok _,⟨s.toks+1,by rw[List.size_toArray,hlen]⟩,q⟩
theorem call_tuple_of:CallR X (.type "tuple") (λ xs H Q=>∃p ys,xs=[.ref p]/\((SqL X.K H p ys/\∀l,H l=none->Q (.ref l) (upd H l (.tup ys)))\/(SqT X.K H p ys/\Q (.ref p) H))):=by
 intro pins s σ H xs us Q I r h
 obtain⟨p,ys,rfl,h⟩:=h
 obtain⟨u,rfl,rx⟩:=vals1 r
 obtain rfl:=rx
 rcases h with⟨hq,q⟩ |⟨hq,q⟩
 ·obtain⟨its,r',pl,hz⟩:=I.list hq
  have hlen:=r'.length
  refine call_tuple_list pl.isList (λ h' kp=>?_) (by simp only[List.size_toArray] <;> exact PB hlen hz)
  have I1:Inv X pins σ H {s with heap:=h'}:=I.kept (t':=s.toks) kp
  have I2:Inv X pins σ (upd H h'.objs.size (.tup ys)) {s with heap:=h'.push {cls:= .type "tuple",data:= .seq its.toArray}}:=
   I1.laid (t':=s.toks) (λ b o e=>Heap.get?_push_of_some _ e) (z0g _) (show ObjOk X.prog X.w _ _ _ (.tup ys) from ⟨hz,its,r',IsTup.new _ _⟩)
  exact⟨.ref h'.objs.size,_,I2,rfl,q _ (I1.hok.fresh (z0g _))⟩
 ·obtain⟨its,r',pl,hz⟩:=I.tuple hq
  exact call_tuple_same pl ⟨.ref p,H,I,rfl,q⟩
noncomputable def tyV (K:PySem.W.Frag) (T:String) (x:V) (H:Hp):Prop:=match x with
 | .str _=>T= "str"
 | .int _=>T= "int"
 | .ref p=>(T= "list"/\∃xs,SqL K H p xs)\/(T= "tuple"/\∃o,K.lookup p=some o/\o.cls= .type "tuple"/\o.dict=none)\/
   (T= "dict"/\((∃kvs,H p=some (.dK kvs))\/∃kvs,H p=some (.dT kvs)))\/(T= "set"/\∃S n,H p=some (.set S n))
 |_=>False
theorem tyV_is {pins:List (Addr×Obj)} {σ:St} {H:Hp} {s:Shared} {T:String} {x:V} {v:Value} (I:Inv X pins σ H s) (r:RelV x v) (ty:tyV X.K T x H):
  s.TypeIs v T/\∀a,v= .ref a->∃ob,s.heap.get? a=some ob/\ob.dict=none:=by
 cases x with
 | str z=>
  obtain⟨t,rfl⟩:=r
  obtain rfl:T= "str" :=ty
  exact⟨typeIs_str s z t,λ Z e=>nomatch e⟩
 | int i=>
  obtain⟨t,rfl⟩:=r
  obtain rfl:T= "int" :=ty
  exact⟨typeIs_int s i t,λ Z e=>nomatch e⟩
 | ref p =>
  obtain rfl:=r
  rcases ty with⟨rfl,xs,hq⟩ |⟨rfl,o,hk,hc,hd⟩ |⟨rfl,hk⟩ |⟨rfl,S,n,hk⟩
  ·obtain⟨its,_,pl,_⟩:=I.list hq
   refine⟨pl.isList.typeIs,λ a e=>?_⟩
   (injection e with aH;subst aH)
   obtain⟨o,n,e,c,hd,_⟩:=pl
   exact⟨o,e,hd⟩
  ·refine⟨⟨o,I.kIn p o hk,hc⟩,λ a e=>?_⟩
   (injection e with aH;subst aH)
   exact⟨o,I.kIn _ o hk,hd⟩
  ·have z:∃o,s.heap.get? p=some o/\o.ExactDict:=by
    rcases hk with⟨kvs,hk⟩ |⟨kvs,hk⟩
    ·obtain⟨_,_,_,_,o,_,_,e,ex,_⟩:=I.hok p _ hk
     exact⟨o,e,ex⟩
    ·obtain⟨_,_,_,_,o,_,_,e,ex,_⟩:=I.hok p _ hk
     exact⟨o,e,ex⟩
   obtain⟨o,e,ex⟩:=z
   refine⟨⟨o,e,ex.1⟩,λ a e2=>?_⟩
   (injection e2 with aH;subst aH)
   exact⟨o,e,ex.2.1⟩
  ·obtain⟨o,_,_,_,e,ex,_⟩:=I.hok p _ hk
   refine⟨⟨o,e,ex.1⟩,λ a e2=>?_⟩
   (injection e2 with aH;subst aH)
   exact⟨o,e,ex.2.1⟩
 |_=>exact False.elim ty
noncomputable def tBM (K:PySem.W.Frag) (T:String) (r:V->List V->Hp->VK->Prop) (to:TE) (t:TA):TE:=λ σ H Q=>to σ H λ x H1=>tyV K T x H1/\t σ H1 λ xs H2=>r x xs H2 Q
variable {o e:Expr} {es:List Expr} {to:TE} {t:TA} {name:Str} {apos cpos:Pos} {T id:String} {r:V->List V->Hp->VK->Prop}
theorem pe_bm (pa:PlainAttrs T) (slot:Slot T name id) (hty:typeOf (.builtin id)=pure (.type "method_descriptor")) (hm:MtR X id r) (ho:PE X o to) (ha:PA X (e::es) t)
  (hbase:autoParam (attributeBase o name X.env (eval o X.env)=eval o X.env) bB._auto_1)
  (hfew:((backTo cpos (starEach (e::es) X.env)).all (λ x=> !x.1) && (backToKw cpos (keywordEach [] X.env)).all (λ x=>x.1.isSome)
   && decide ((e::es).length+([]:List Keyword).length+(if ([]:List Keyword).isEmpty then 0 else 1) < 30))=true:=by rfl)
  (hline:autoParam ((apos.endLine ==cpos.line)=true) bB._auto_1) (hs:autoParam (starEach (e::es) X.env=(false,eval e X.env)::starEach es X.env) bB._auto_1) (hplain:autoParam ((backTo cpos (starEach es X.env)).any (·.1)=false) bB._auto_1):
  PE X (.Call (.Attribute o name apos) (e::es) [] cpos) (tBM X.K T r to t):=by
 intro pins s σ H Q I h
 refine wpAny_Call_method_late hbase hfew hline rfl (thn (ho pins s σ H _ I h) λ v s1 bY=>?_)
 obtain⟨x,H1,I1,r1,ty,q1⟩:=bY
 obtain⟨h1,h2⟩:=tyV_is I1 r1 ty
 refine⟨T,id,pa,slot,hty,h1,h2,?_⟩
 have hA:=ha cpos pins s1 σ H1 _ I1 q1
 rw[hs] at hA |-
 refine Calls.callWith_builtin (by show (false || (backTo cpos (starEach es X.env)).any (·.1))=false;rw[hplain] <;> rfl) (Calls.evalArgs_plain ?_)
 refine thn hA λ us s2 bY=>?_
 obtain⟨vs,H2,I2,r2,q2⟩:=bY
 exact hm pins s2 σ H2 x vs v us Q I2 r1 r2 q2
end
end L2
namespace L2
open PySem PySem.Spec PyProof.Rows
noncomputable def MtM (X:Cx) (id:String) (r:V->List V->Hp->VK->Prop):Prop:=
 ∀ (pins:List (Addr×Obj)) (s:Shared) (σ:St) (H:Hp) (x:V) (xs:List V) (v:Value) (us:List Value) (Q:VK),Inv X pins σ H s->RelV x v->Vals xs us->r x xs H Q->
  wpAny (model X.prog X.w) X.A (call (.builtin id) (v::us)) (EP X pins σ Q) X.xe s
theorem Vals.one:∀{x:V} {us:List Value},Vals [x] us->∃u,us=[u]/\RelV x u
 | _,_,h=>by
  cases h with
  |cons r t=>cases t;exact⟨_,rfl,r⟩
theorem Vals.rep {xs:List V} {us:List Value} (h:Vals xs us):∀k:Nat,Vals (List.replicate k xs).flatten (List.replicate k us).flatten
 |0=> .nil
 | k+1=>by
  rw[List.replicate_succ,List.replicate_succ,List.flatten_cons,List.flatten_cons]
  exact Vals.append h (Vals.rep h k)
theorem foldl_rep (its:List Value):∀(k:Nat) (acc:List Value),
  List.foldl (λ x1 x2=>x1++x2) acc.toArray (List.replicate k its.toArray)=(acc++(List.replicate k its).flatten).toArray
 |0,acc=>by simp
 | k +1,acc=>by
  have e:acc.toArray++its.toArray=(acc++its).toArray:=by simp
  have e2:(acc++its)++(List.replicate k its).flatten=acc++(List.replicate (k+1) its).flatten:=by
   rw[List.replicate_succ,List.flatten_cons,List.append_assoc]
  rw[<-e2,<-foldl_rep its k (acc++its),<-e,List.replicate_succ,List.foldl_cons]
section
variable {X:Cx} {pins:List (Addr×Obj)} {σ:St} {H:Hp} {s:Shared} {l b:Addr} {xs ys zs:List V}
theorem Inv.lset {its its':List Value} {n:Nat} {f:Array Value->Array Value} {t':Nat} (I:Inv X pins σ H s) (hH:H l=some (.lst xs))
  (e:s.heap.get? l=some {cls:= .type "list",data:= .seq its.toArray n}) (hf:f its.toArray=its'.toArray) (hv:Vals ys its') (hz:ys.length<=sizeLine):
  Inv X pins σ (upd H l (.lst ys)) {s with heap:=s.heap.update l (Obj.mapSeq f),toks:=t'}:=by
 have q:=PySem.IsL.update e f
 rw[hf] at q
 refine I.write (x:=l) (e:=l) (by rw[hH];exact trivial) (.inl rfl) (λ b' u hb hu=>(Heap.get?_update_other s.heap (Obj.mapSeq f) (Ne.symm hb)).trans hu) ⟨_,q⟩ ?_
 exact⟨hz,its',_,hv,q⟩
theorem Inv.lnew {its:List Value} {t':Nat} (I:Inv X pins σ H s) (hv:Vals ys its) (hz:ys.length<=sizeLine):
  Inv X pins σ (upd H s.heap.objs.size (.lst ys)) {s with heap:=s.heap.push {cls:= .type "list",data:= .seq its.toArray},toks:=t'}:=
 I.laid (λ Z Z q=>Heap.get?_push_of_some _ q) (z0g _) ⟨hz,its,0,hv,Heap.get?_push_size _ rfl⟩
theorem Inv.fresh (I:Inv X pins σ H s):H s.heap.objs.size=none:=I.hok.fresh (z0g _)
theorem Inv.lstM (I:Inv X pins σ H s) (hH:H l=some (.lst xs)):xs.length<=sizeLine/\∃(its:List Value) (n:Nat),Vals xs its/\xs.length=its.length/\s.heap.get? l=some {cls:= .type "list",data:= .seq its.toArray n}:=by
 obtain⟨z,its,n,r,e⟩:=I.hok l _ hH
 exact⟨z,its,n,r,r.length,e⟩
end
section
variable {X:Cx}
noncomputable def rAppend:V->List V->Hp->VK->Prop:=λ x vs H Q=>∃l xs y,x= .ref l/\vs=[y]/\H l=some (.lst xs)/\xs.length < sizeLine/\Q .non (upd H l (.lst (xs++[y])))
theorem mt_append:MtM X "list.append" rAppend:=by
 intro pins s σ H x vs v us Q I rx rv h
 refine bc λ zQ=>?_
 obtain⟨l,xs,y,rfl,rfl,hH,hz,q⟩:=h
 apply zQ;clear zQ
 obtain rfl:=rx
 refine bc λ zQ=>?_
 obtain⟨u,rfl,ru⟩:=rv.one
 obtain⟨z,its,n,r,hl,e⟩:=I.lstM hH
 apply zQ;clear zQ
 refine call_meets F.slot_list_append ⟨_,e,rfl⟩ F.entry_list_append (F.args_list_append_2 _ _) (PySem.list_append l its.toArray n u (by rw[List.size_toArray];exact anx hz hl)) ⟨e,?_⟩
 refine⟨.non,_,I.lset (its':=its++[u]) hH e (by simp) (r.append (.cons ru .nil)) ?_,rfl,q⟩
 rw[List.length_append,List.length_singleton]
 assumption
theorem len_rep {α:Type} (xs:List α) (k:Nat):(List.replicate k xs).flatten.length=k*xs.length:=by
 induction k with
 |zero=>simp
 |succ k ih=>rw[List.replicate_succ,List.flatten_cons,List.length_append,ih,Nat.succ_mul,Nat.add_comm]
end
section
variable {prog:Program} {w:World} {A:Around} {E:Value->Shared->Prop} {s:Shared}
end
section
variable {X:Cx}
end
end L2
namespace L2
open PySem PySem.Spec PyProof.Rows
section
variable {κ:Type} [DecidableEq κ]
end
section
variable {P:Program} {w:World} {H:Hp} {h:Heap} {a:Addr}
end
section
variable {X:Cx} {pins:List (Addr×Obj)} {σ:St} {H:Hp} {s:Shared} {a:Addr} {y v:V} {u r:Value} {o:Option V} {A:Around} {E:Value->Shared->Prop}
end
section
variable {X:Cx} {pins:List (Addr×Obj)} {σ:St} {H:Hp} {s:Shared} {a:Addr} {kvs:List (Key×V)} {k:Key} {u:Value} {A:Around} {E:Value->Shared->Prop}
end
section
variable {X:Cx} {o i e value:Expr} {pos pos' tpos:Pos} {td ty tv:TE}
end
section
variable {X:Cx} {pos:Pos}
end
section
variable {X:Cx} {pins:List (Addr×Obj)} {σ:St} {H:Hp} {s:Shared} {a:Addr} {y d:V} {u r:Value} {o:Option V} {A:Around} {E:Value->Shared->Prop}
end
section
variable {X:Cx} {o e f:Expr} {apos cpos:Pos} {td ty tx:TE}
end
section
variable {X:Cx} {pins:List (Addr×Obj)} {σ:St} {H:Hp} {s:Shared} {a:Addr} {kvs:List (Key×V)} {A:Around} {E:Value->Shared->Prop}
end
section
variable {X:Cx} {pins:List (Addr×Obj)} {σ:St} {H:Hp} {s:Shared} {a:Addr} {y:V} {u:Value} {A:Around} {E:Value->Shared->Prop}
end
end L2
namespace Att
open PySem PySem.W PySem.Calls PyProof.Rows
theorem ints_of_wellAll {P:Params} {h:Heap}:∀(ns:List Int) (vs:List Value),WellAll P h vs (ns.map WData.int)->IntsAre vs ns:=by
 intro ns
 induction ns with
 | nil=>
  intro vs w
  rw[List.map_nil] at w
  cases w
  exact .nil
 | cons n ns ih=>
  intro vs w
  rw[List.map_cons] at w
  cases w with
  | cons a b=>
   cases a
   exact .cons _ _ (ih _ b)
theorem script_of {l:OpenLaw} {n:Nat} (hn:l.most=some n) {P:Params} {h:Heap} {args:List WData} {vals:List Value}
  (hpre:l.row.toRowW.claim.pre args=true) (hwl:WellAll P h vals args):
  ∃a vs ns,vals=[Value.ref a]/\args=[WData.list (ns.map WData.int)]/\h.get? a=some {cls:= .type "list",data:= .seq vs.toArray}/\IntsAre vs ns/\ns.length<=n:=by
 have hsh:WShape.hasAll [] args [.list .int]=true:=(pre_splitW hpre).1
 have hc:l.pre.holds [] {args:=args}=true:=(pre_splitW hpre).2
 obtain⟨d,r,rfl,h1,h2⟩:=hasAllW_cons hsh
 obtain rfl:=hasAllW_nil h2
 obtain⟨xs,rfl,h3⟩:=hasW_list h1
 obtain⟨ns,rfl⟩:=items_int h3
 have hlen:ns.length<=n:=by
  unfold OpenLaw.pre at hc
  have h4:(WTm.not (.lt (.lit (.int (n:Int))) (.len (.arg 0)))).holds [] {args:=[.list (ns.map .int)]}=true:=by
   have h4:=(holds_andW hc).1
   rw[hn] at h4
   exact h4
  have h5:=condW_of h4 (w_not (w_lt w_lit (w_len_list (w_arg rfl))))
  rw[List.length_map] at h5
  refine Nat.le_of_not_lt λ q=>?_
  have q':(n:Int) < ((ns.length:Nat):Int):=by exact Int.ofNat_lt.mpr q
  first
   |(rw[decide_eq_true q'] at h5;exact absurd h5 (by decide))
   |(simp at h5;omega)
 cases hwl with
 | cons w1 w2=>
  cases w2
  cases w1 with
  |list ho hall=>exact⟨_,_,ns,rfl,rfl,ho,ints_of_wellAll ns _ hall,hlen⟩
theorem post_true (l:OpenLaw) (args:List WData):l.row.toRowW.claim.post args (.bool true) args=true:=
 postW_of (r:=l.row.toRowW) (X:=(true ==true))
  (show WShape.has [] (.bool true) .bool=true by first |rfl |decide |simp [WShape.has,WShape.arms,WShape.armsAll])
  (show (WTm.eq .res (.lit (.bool true))).value [] {args:=args,res:=some (.bool true),after:=args}=some (.bool (true ==true)) from w_eq_bool (w_res rfl) w_lit) rfl
theorem attach_call {l:OpenLaw} {n:Nat} {q:Program} {loose:List Str} {XP:(Str->Option Value)->Heap->Prop} {YP:World->Heap->Prop} {d:DefRec}
  (hn:l.most=some n) (hdf:d.params.defaults=[])
  (call:∀(w:World) (s₀ s₁:Shared) (mg mb:Str->Option Value) (fa:Addr) (o:Obj) (pm cd doc:Value) (a:Addr) (vs:List Value) (ns:List Int),
   Ground q loose [] XP w s₀ mg mb s₁.heap->YP w s₁.heap->
   s₁.heap.get? fa=some o->o.data= .func (docDef d.name d.params d.body d.scope pm cd doc)->s₁.heap.CodeRec cd d.name->mg d.name=some (.ref fa)->
   s₁.heap.get? a=some {cls:= .type "list",data:= .seq vs.toArray}->IntsAre vs ns->ns.length<=n->s₁.gens= #[]->
   codeAny (model l.prog w) callerA (.call (.ref fa) ⟨[.ref a],[]⟩) (λ r s'=>r= .ok (.ret (.bool true))/\OldK s₁.heap s'.heap/\s'.os=s₁.os/\AllBare s'.gens) s₁):
  WalkO q loose XP YP l.row.toRowW d [] (λ f vs=>PySem.call f vs):=by
 intro w s₀ s₁ mg mb G Y fa o pm cd doc dV kV ho hd hcd hD hmg hg args vals as hpre hlay hrd hwl hlo
 obtain rfl:dV= .none:=Dflts.none hD hdf
 obtain rfl:kV= .none:=Dflts.noKw hD
 obtain⟨a,vs,ns,rfl,rfl,hobj,hints,hlen⟩:=script_of hn hpre hwl
 refine enter_call (codeAny_mono (call w s₀ s₁ mg mb fa o pm cd doc a vs ns G Y ho (fd_plain hd) hcd hmg hobj hints hlen hg) λ r s' hq=>?_)
 obtain⟨rfl,h2,h3,h4⟩:=hq
 exact⟨.inl ⟨.bool true,.bool true,[],rfl,λ Z=>rfl,.bool true,post_true l _,λ Z=>⟨List.Pairwise.nil,λ Z hm=>(nomatch hm)⟩⟩,h2,h3,h4⟩
section
variable {prog:Program} {w:World} {A:Around} {E:Value->Shared->Prop} {s:Shared} {K:Frag}
end
end Att
namespace L2
open PySem PySem.Spec PyProof.Rows
theorem vals_ints:∀{vs:List Value} {ns:List Int},IntsAre vs ns->Vals (ns.map V.int) vs
 :=by
 intro vs ns h
 induction h with
 |nil=>exact .nil
 |cons n t h ih=>exact .cons ⟨t,rfl⟩ ih
noncomputable def Only (H:Hp):Prop:=∀b,H b=none\/∃o xs,H b=some (.frz o (.lst xs))
theorem law_call {P:Program} {w:World} {K:PySem.W.Frag} {mg mb:Str->Option Value} {CX:CXT} {k:Nat} {fa a:Addr} {fd:FuncData} {x:Str} {sp:Sp} {s₁:Shared} {vs:List Value} {ns:List Int}
  (KX:K.In s₁.heap) (hns:s₁.heap.Ns mainGlobals mg) (hb:s₁.heap.Ns builtinsNs mb) (hbb:∀x:Str,x≠"__name__"->mb x=bootBuiltins x) (hlim:s₁.heap.NoLimit) (hg:s₁.gens= #[])
  (ha:s₁.heap.get? a=some {cls:= .type "list",data:= .seq vs.toArray}) (hi:IntsAre vs ns) (hl:ns.length<=sizeLine) (hr:Room k callerA)
  (F:∀base:Heap,K.In base->base.Ns mainGlobals mg->FnOk P w K mg base CX k fa fd [x] sp) (hbind:∀(s:Shared) (u:Value),BindsTo s fd ⟨[u],[]⟩ [(x,u)])
  (hsp:∀H:Hp,Only H->SqL K H a (ns.map V.int)->sp [.ref a] H (λ v Z=>v= .bl true) λ Z Z Z=>False)
  (hCX:∀H e s',CX [] H s₁ (λ Z Z Z=>False) e s'->False):
  codeAny (model P w) callerA (.call (.ref fa) ⟨[.ref a],[]⟩) (λ r s'=>r= .ok (.ret (.bool true))/\OldK s₁.heap s'.heap/\s'.os=s₁.os/\AllBare s'.gens) s₁:=by
 have rv:=vals_ints hi
 have lenV:=hi.length
 have core :∀H:Hp,Only H->SqL K H a (ns.map V.int)->HOk P w H s₁.heap->(∀b,H b≠none->b=a)->(H a≠none->K.lookup a=none)->
   codeAny (model P w) callerA (.call (.ref fa) ⟨[.ref a],[]⟩) (λ r s'=>r= .ok (.ret (.bool true))/\OldK s₁.heap s'.heap/\s'.os=s₁.os/\AllBare s'.gens) s₁:=by
  intro H hO hS hok hA hK
  have base_of:∀{b:Addr} {o:Obj},s₁.heap.get? b=some o->H b=none->(hidT s₁.heap H).get? b=some o:=λ e n=>hidT_get e n
  have noA:∀{b:Addr} {o:Obj} {es:Array DictEntry} {ep:Nat},s₁.heap.get? b=some o->o.data= .dict es ep->H b=none:=λ {b o es ep} e d=>by
   cases q:H b with
   |none=>rfl
   | some u=>
    have e':b=a:=hA b (by rw[q];simp)
    subst e'
    rw[ha] at e;(injection e with aH;subst aH)
    have d':Data.seq vs.toArray _=Data.dict es ep:=d
    injection d'
  have nsK:∀{b:Addr} {m:Str->Option Value},s₁.heap.Ns b m->(hidT s₁.heap H).Ns b m:=λ {b m} ⟨o,es,ep,e,d,r⟩=>⟨o,es,ep,base_of e (noA e d),d,r⟩
  have hKb:K.In (hidT s₁.heap H):=λ b o e=>base_of (KX b o e) (by
   cases q:H b with
   |none=>rfl
   | some u=>
    have e':b=a:=hA b (by rw[q];simp)
    subst e'
    rw[hK (by rw[q];simp)] at e;injection e)
  have hM:Mod K mg (hidT s₁.heap H):=⟨hKb,nsK hns,⟨mb,nsK hb,hbb⟩,let ⟨mc,h1,h2⟩:=hlim;⟨mc,nsK h1,h2⟩⟩
  have e0:Env0 P w K mg (hidT s₁.heap H) callerA [] s₁ H:=⟨rfl,hM,λ b o e=>of_hidT e,z0f (hidT_size _ _),trivial,λ b hb=>absurd (show b∈([]:List Addr) from hb) (by simp),hok,.of_eq hg⟩
  refine codeAny_mono ((F _ hKb (nsK hns)).run callerA [] s₁ H ⟨[.ref a],[]⟩ [.ref a] [.ref a] _ _ hr e0 (hbind s₁ (.ref a)) (.cons rfl .nil) (hsp H hO hS)) λ r s' h=>?_
  cases r with
  |error e=>exact (hCX H e s' h).elim
  | ok fl =>
   cases fl with
   |next=>exact False.elim h
   |brk=>exact False.elim h
   |cont=>exact False.elim h
   | ret u=>
    obtain⟨v,H',os,bare,un,hok',r',q⟩:=h
    have q':v= .bl true:=q
    subst q'
    obtain rfl:u=Value.bool true:=r'
    refine⟨rfl,OldK.of_keep λ b o e=>?_,os,bare⟩
    cases q:H b with
    |none=>exact un.keep b o e q (by intro z;exact absurd (show b∈([]:List Addr) from z) (by simp)) (by simp)
    | some u=>
     rcases hO b with z |⟨ob,xs,z⟩
     ·rw[q] at z;injection z
     ·have z2:=un.frzs b ob _ z
      obtain⟨e1,_⟩:=hok b _ z
      obtain⟨e2,_⟩:=hok' b _ z2
      rw[e] at e1;(injection e1 with aH;subst aH)
      exact e2
 cases hk:K.lookup a with
 | some o=>
  have e:=KX a o hk
  rw[ha] at e
  (injection e with aH;subst aH)
  refine core (λ Z=>none) (λ Z=> .inl rfl) (.inr ⟨_,vs.toArray,_,hk,rfl,rfl,rfl,by rw[List.size_toArray,lenV];exact hl,by simpa using rv⟩) (λ b u z=>by have z':(none:Option HO)=some u:=z;injection z') (λ b z=>absurd rfl z) λ z=>absurd rfl z
 | none=>
  refine core (λ b=>if b=a then some (.frz {cls:= .type "list",data:= .seq vs.toArray} (.lst (ns.map V.int))) else none) (λ b=>?_) (.inl (.inr ⟨{cls:= .type "list",data:= .seq vs.toArray},if_pos rfl⟩)) (λ b u z=>?_) (λ b z=>?_) λ Z=>hk
  ·by_cases hb:b=a
   ·exact .inr ⟨_,_,if_pos hb⟩
   ·exact .inl (if_neg hb)
  ·by_cases hb:b=a
   ·have z':=(if_pos hb).symm.trans z
    (injection z' with aH;subst aH)
    subst hb
    exact⟨ha,by rw[List.length_map];exact hl,vs,_,rv,ha⟩
   ·have z':=(if_neg hb).symm.trans z
    injection z'
  ·by_cases hb:b=a
   ·exact hb
   ·exact absurd (if_neg hb) z
end L2
namespace L2
open PySem PySem.Spec PyProof.Rows
theorem walk_of {l:PySem.W.OpenLaw} {n k:Nat} {q:Program} {loose:List Str} {XP:(Str->Option Value)->Heap->Prop} {YP:World->Heap->Prop} {d:DefRec} {K:Params->PySem.W.Frag} {CX:World->CXT} {sp:World->Sp} {x:Str}
  (hn:l.most=some n) (hn2:n<=sizeLine) (hdf:d.params.defaults=[]) (hr:Room k callerA)
  (hY:∀(w:World) (h:Heap),YP w h->(K w.params).In h)
  (F:∀(w:World) (mg:Str->Option Value) (fa:Addr) (h:Heap),(K w.params).In h->h.Ns mainGlobals mg->mg d.name=some (.ref fa)->
   ∃ fd:FuncData,(∀(s:Shared) (u:Value),BindsTo s fd ⟨[u],[]⟩ [(x,u)])/\
    ∀base:Heap,(K w.params).In base->base.Ns mainGlobals mg->FnOk l.prog w (K w.params) mg base (CX w) k fa fd [x] (sp w))
  (hsp:∀(w:World) (H:Hp) (a:Addr) (ns:List Int),ns.length<=n->Only H->SqL (K w.params) H a (ns.map V.int)->sp w [.ref a] H (λ v Z=>v= .bl true) λ Z Z Z=>False)
  (hCX:∀(w:World) (H:Hp) (s:Shared) (e:Value) (s':Shared),CX w [] H s (λ Z Z Z=>False) e s'->False):
  PySem.W.WalkO q loose XP YP l.row.toRowW d [] (λ f vs=>PySem.call f vs):=by
 refine Att.attach_call hn hdf λ w s₀ s₁ mg mb fa o pm cd doc a vs ns G Y ho hd hcd hmg hobj hints hlen hg=>?_
 have KX:=hY w _ Y
 obtain⟨fd,hb,hF⟩:=F w mg fa _ KX G.T.g hmg
 exact law_call KX G.T.g G.T.b G.T.builtins G.T.nolimit hg hobj hints (z0b hlen hn2) hr hF hb (λ H hO hS=>hsp w H a ns hlen hO hS) λ H e s'=>hCX w H s₁ e s'
end L2
namespace L2
open PySem PySem.Spec PyProof.Rows
noncomputable def defArgs (s:Stmt):Arguments:=match s with
 | .FunctionDef _ a _ _ _ _ _ _ _ _=>a
 |_=>{posonlyargs:=[],args:=[],vararg:=none,kwonlyargs:=[],kw_defaults:=[],kwarg:=none,defaults:=[]}
noncomputable def defBody (s:Stmt):List Stmt:=match s with
 | .FunctionDef _ _ b _ _ _ _ _ _ _=>b
 |_=>[]
noncomputable def defScope (s:Stmt):Scope:=match s with
 | .FunctionDef _ _ _ _ _ _ sc _ _ _=>sc
 |_=>{kind:= .function,names:=[],isGenerator:=false,isCoroutine:=false}
noncomputable abbrev CX0:CXT:=λ Z Z Z Z Z Z=>False
noncomputable abbrev E0:XK:=λ Z Z Z=>False
theorem pass0 {X:Cx}:Passes CX0 X E0:=λ Z Z Z Z Z Z Z h=>h.elim
inductive agJ (K:PySem.W.Frag) (x qual:Str) (st:Stmt) (f:Addr) (fd:FuncData):Prop
 |mk (oc:Value) (od:Option Addr) (kV doc pm:Value) (an:Option Addr) (cdv ct:Value) (osl:Array (Option Value)) (e:fd=PySem.W.fnOf x qual (defArgs st) (defBody st) (defScope st) .none kV doc pm an cdv ct) (lk:K.lookup f=some ⟨oc,od,.func fd,osl⟩) (hcd:PySem.W.codeIn K cdv qual=true):agJ K x qual st f fd
structure Fun (K:PySem.W.Frag) (x qual:Str) (st:Stmt) (f:Addr) (fd:FuncData):Prop where
 ex:agJ K x qual st f fd
 kp:PySem.W.keepIn K (.ref f)=true
section
variable {P:Program} {w:World} {K:PySem.W.Frag} {mg:Str->Option Value} {base:Heap}
theorem Fun.ok {x qual:Str} {st:Stmt} {f:Addr} {fd:FuncData} {N ps:List Str} {k:Nat} {sp:Sp} (F:Fun K x qual st f fd) (S:FnScope N ps (defScope st)) (len:∀vs H Q E,sp vs H Q E->vs.length=ps.length)
  (hbody:∀(cdv:Value) (A:Around) (outer:List Env) (s:Shared) (H:Hp) (vs:List V) (Q:VK) (E:XK),Room k (A.deeper (envOfC qual (defScope st) s.heap.objs.size f cdv))->sp vs H Q E->
   ∃t,PSs (cxOf CX0 P w K mg base N qual (defScope st) f cdv A outer s H E).nox (defBody st) t/\t {nx:=λ Z H'=>Q .non H',rt:=Q} (start N vs) H):FnOk P w K mg base CX0 (k+1) f fd ps sp:=by
 obtain⟨oc,od,kV,doc,pm,an,cdv,ct,osl,rfl,lk,hcd⟩:=F.ex
 refine fn_of lk hcd S len λ A outer s H vs Q E hr hsp=>?_
 obtain⟨t,h,q⟩:=hbody cdv A outer s H vs Q E hr hsp
 exact⟨t,h.nox,q⟩
theorem Fun.binds {x qual:Str} {st:Stmt} {f:Addr} {fd:FuncData} {ps:List Str} (F:Fun K x qual st f fd)
  (h:∀(kV doc pm:Value) (an:Option Addr) (cdv ct:Value) (us:List Value),us.length=ps.length->bindArgs (PySem.W.fnOf x qual (defArgs st) (defBody st) (defScope st) .none kV doc pm an cdv ct) ⟨us,[]⟩=pure (ps.zip us)):Binds K fd ps []:=by
 obtain⟨oc,od,kV,doc,pm,an,cdv,ct,osl,rfl,lk,hcd⟩:=F.ex
 exact .all (h kV doc pm an cdv ct)
theorem fun_mk {x qual:Str} {st:Stmt} {f:Addr} {oc:Value} {od an:Option Addr} {osl:Array (Option Value)} {kV doc pm cdv ct:Value} (l:K.lookup f=some ⟨oc,od,.func (PySem.W.fnOf x qual (defArgs st) (defBody st) (defScope st) .none kV doc pm an cdv ct),osl⟩)
  (c:PySem.W.codeIn K cdv qual=true) (k:PySem.W.keepIn K (.ref f)=true):Fun K x qual st f (PySem.W.fnOf x qual (defArgs st) (defBody st) (defScope st) .none kV doc pm an cdv ct):=⟨⟨oc,od,kV,doc,pm,an,cdv,ct,osl,rfl,l,c⟩,k⟩
end
section
variable {X:Cx}
end
noncomputable def Same (H H':Hp):Prop:=∀b o,H b=some o->H' b=some o
theorem Same.refl (H:Hp):Same H H:=λ Z Z h=>h
theorem Same.trans {H H1 H2:Hp} (a:Same H H1) (b:Same H1 H2):Same H H2:=λ c o h=>b c o (a c o h)
theorem Same.free {H H':Hp} (e:Same H H') {l:Addr} (h:H' l=Option.none):H l=Option.none:=by
 cases q:H l with
 |none=>rfl
 | some o=>
  rw[e l o q] at h
  injection h
section
variable {κ:Type} [DecidableEq κ]
end
end L2
namespace Pu
open PySem PySem.Spec L2
open PyProof.Rows hiding St
set_option genInjectivity true in
inductive D where
 |non |bl (b:Bool) |int (i:Int) |str (x:Str) |tup (xs:List D) |lst (xs:List D)
set_option genInjectivity true in
inductive R (α:Type) where
 |bad |ok (a:α) |err (c:Str)
namespace R
noncomputable def bind {α β:Type} (r:R α) (k:α->R β):R β:=match r with
 | .ok a=>k a
 | .err c=> .err c
 | .bad=> .bad
@[simp] theorem bL {α β:Type} (a:α) (k:α->R β):(R.ok a).bind k=k a:=rfl
end R
mutual
noncomputable def Rep (K:PySem.W.Frag) (O:Addr->Prop) (H:Hp):D->V->Prop
 | .non,v=>v= .non
 | .bl b,v=>v= .bl b
 | .int i,v=>v= .int i
 | .str x,v=>v= .str x
 | .tup ds,v=>∃a xs,v= .ref a/\SqT K H a xs/\aZ K O H ds xs
 | .lst ds,v=>∃a xs,v= .ref a/\SqL K H a xs/\¬O a/\aZ K O H ds xs
noncomputable def aZ (K:PySem.W.Frag) (O:Addr->Prop) (H:Hp):List D->List V->Prop
 |[],xs=>xs=[]
 |d::ds,xs=>∃x r,xs=x::r/\Rep K O H d x/\aZ K O H ds r
end
structure Ext (O:Addr->Prop) (H H':Hp):Prop where
 tup:∀b xs,Rd H b (.tup xs)->Rd H' b (.tup xs)
 lst:∀b xs,¬O b->Rd H b (.lst xs)->Rd H' b (.lst xs)
section
variable {K:PySem.W.Frag} {O O':Addr->Prop} {H H':Hp}
theorem SqL.ext (e:Ext O H H') {a:Addr} {xs:List V} (n:¬O a) (h:SqL K H a xs):SqL K H' a xs:=by
 rcases h with h |h
 ·exact .inl (e.lst _ _ n h)
 ·exact .inr h
theorem SqT.ext (e:Ext O H H') {a:Addr} {xs:List V} (h:SqT K H a xs):SqT K H' a xs:=by
 rcases h with h |h
 ·exact .inl (e.tup _ _ h)
 ·exact .inr h
mutual
theorem Rep.ext (e:Ext O H H') (o:∀b xs,¬O b->SqL K H b xs->¬O' b):∀(d:D) (v:V),Rep K O H d v->Rep K O' H' d v
 | .non,_,h=>h
 | .bl _,_,h=>h
 | .int _,_,h=>h
 | .str _,_,h=>h
 | .tup ds,v,h=>by
  obtain⟨a,xs,e1,h1,h2⟩:=h
  exact show ∃a xs,v= .ref a/\SqT K H' a xs/\aZ K O' H' ds xs from ⟨a,xs,e1,SqT.ext e h1,aZ.ext e o ds xs h2⟩
 | .lst ds,v,h=>by
  obtain⟨a,xs,e1,h1,h2,h3⟩:=h
  exact show ∃a xs,v= .ref a/\SqL K H' a xs/\¬O' a/\aZ K O' H' ds xs from ⟨a,xs,e1,SqL.ext e h2 h1,o _ _ h2 h1,aZ.ext e o ds xs h3⟩
theorem aZ.ext (e:Ext O H H') (o:∀b xs,¬O b->SqL K H b xs->¬O' b):∀(ds:List D) (xs:List V),aZ K O H ds xs->aZ K O' H' ds xs
 |[],xs,h=>h
 | d::ds,xs,h=>by
  obtain⟨x,r,e1,h1,h2⟩:=h
  exact show ∃x r,xs=x::r/\Rep K O' H' d x/\aZ K O' H' ds r from ⟨x,r,e1,Rep.ext e o d x h1,aZ.ext e o ds r h2⟩
end
end
structure gO (K:PySem.W.Frag) (O:Addr->Prop) (H:Hp) (O':Addr->Prop) (H':Hp):Prop where
 ext:Ext O H H'
 new:∀a,O' a->O a\/(H a=none/\K.lookup a=none)
 dom:∀a,H' a=none->H a=none
section
variable {K:PySem.W.Frag} {O O1 O2:Addr->Prop} {H H1 H2:Hp}
theorem Rd.some {a:Addr} {u:HO} (h:Rd H a u):H a≠none:=by
 rcases h with h |⟨o,h⟩ <;> rw[h] <;> simp
theorem gO.out (r:gO K O H O1 H1) (b:Addr) (xs:List V) (n:¬O b) (h:SqL K H b xs):¬O1 b:=λ z=>by
 rcases r.new b z with z |⟨z1,z2⟩
 ·exact n z
 ·rcases h with h |⟨o,_,_,h,_⟩
  ·exact Rd.some h z1
  ·rw[z2] at h;injection h
theorem gO.refl:gO K O H O H:=⟨⟨λ Z Z h=>h,λ Z Z Z h=>h⟩,λ Z h=> .inl h,λ Z h=>h⟩
theorem gO.trans (r:gO K O H O1 H1) (q:gO K O1 H1 O2 H2):gO K O H O2 H2 where
 ext:=⟨λ b xs h=>q.ext.tup b xs (r.ext.tup b xs h),λ b xs n h=>q.ext.lst b xs (r.out b xs n (.inl h)) (r.ext.lst b xs n h)⟩
 new:=λ a z=>(q.new a z).elim (r.new a) λ w=> .inr ⟨r.dom a w.1,w.2⟩
 dom:=λ a z=>r.dom a (q.dom a z)
theorem Same.rd (s:Same H H1) {a:Addr} {u:HO} (h:Rd H a u):Rd H1 a u:=by
 rcases h with h |⟨o,h⟩
 ·exact .inl (s _ _ h)
 ·exact .inr ⟨o,s _ _ h⟩
theorem Same.gY (s:Same H H1):gO K O H O H1:=⟨⟨λ Z Z h=>Same.rd s h,λ Z Z Z h=>Same.rd s h⟩,λ Z h=> .inl h,λ Z h=>s.free h⟩
theorem Rep.go (r:gO K O H O1 H1) {d:D} {v:V} (h:Rep K O H d v):Rep K O1 H1 d v:=Rep.ext r.ext r.out d v h
theorem aZ.go (r:gO K O H O1 H1) {d:List D} {v:List V} (h:aZ K O H d v):aZ K O1 H1 d v:=aZ.ext r.ext r.out d v h
theorem Rep.same (s:Same H H1) {d:D} {v:V} (h:Rep K O H d v):Rep K O H1 d v:=h.go (Same.gY s)
theorem aZ.same (s:Same H H1) {d:List D} {v:List V} (h:aZ K O H d v):aZ K O H1 d v:=h.go (Same.gY s)
theorem Rep.fewer (w:∀a,O1 a->O a) {d:D} {v:V} (h:Rep K O H d v):Rep K O1 H d v:=Rep.ext ⟨λ Z Z h=>h,λ Z Z Z h=>h⟩ (λ b Z n Z z=>n (w b z)) d v h
theorem aZ.fewer (w:∀a,O1 a->O a) {d:List D} {v:List V} (h:aZ K O H d v):aZ K O1 H d v:=aZ.ext ⟨λ Z Z h=>h,λ Z Z Z h=>h⟩ (λ b Z n Z z=>n (w b z)) d v h
theorem aZ.nil:aZ K O H [] []:=show ([]:List V)=[] from rfl
theorem aZ.cons {d:D} {v:V} {ds:List D} {vs:List V} (h:Rep K O H d v) (t:aZ K O H ds vs):aZ K O H (d::ds) (v::vs):=show ∃x r,v::vs=x::r/\Rep K O H d x/\aZ K O H ds r from ⟨v,vs,rfl,h,t⟩
inductive RCo (K:PySem.W.Frag) (O:Addr->Prop) (H:Hp) (d:D) (ds:List D) (vs:List V):Prop
 |mk (x:V) (r:List V) (e:vs=x::r) (h:Rep K O H d x) (t:aZ K O H ds r)
theorem aZ.cons_inv {d:D} {ds:List D} {vs:List V} (h:aZ K O H (d::ds) vs):RCo K O H d ds vs:=by
 obtain⟨x,r,e,h,t⟩:=h;exact⟨x,r,e,h,t⟩
theorem aZ.nil_inv {vs:List V} (h:aZ K O H [] vs):vs=[]:=h
theorem aZ.length:∀{ds:List D} {vs:List V},aZ K O H ds vs->ds.length=vs.length
 |[],vs,h=>by rw[h.nil_inv];rfl
 | d::ds,vs,h=>by
  obtain⟨x,r,rfl,_,t⟩:=h.cons_inv
  simp[aZ.length t]
theorem aZ.get:∀{ds:List D} {vs:List V} {i:Nat} {d:D},aZ K O H ds vs->ds[i]?=some d->∃v,vs[i]?=some v/\Rep K O H d v
 |[],_,_,_,_,e=>by simp at e
 | d::ds,vs,i,d',h,e=>by
  obtain⟨x,r,rfl,h1,t⟩:=h.cons_inv
  cases i with
  |zero=>simp at e;subst e;exact⟨x,rfl,h1⟩
  |succ i=>simpa using aZ.get t (i:=i) (by simpa using e)
theorem aZ.ak {ds:List D} {vs:List V} {i:Nat} {v:V} (h:aZ K O H ds vs) (e:vs[i]?=some v):∃d,ds[i]?=some d/\Rep K O H d v:=by
 have hl:=h.length
 have hi:i < ds.length:=by rw[hl];exact (List.getElem?_eq_some_iff.mp e).1
 obtain⟨v',e',r⟩:=h.get (i:=i) (d:=ds[i]) (by simp[hi])
 rw[e] at e';(injection e' with aH;subst aH)
 exact⟨_,by simp[hi],r⟩
theorem aZ.append:∀{ds es:List D} {vs ws:List V},aZ K O H ds vs->aZ K O H es ws->aZ K O H (ds++es) (vs++ws)
 |[],_,vs,_,h,t=>by rw[h.nil_inv];exact t
 | d::ds,es,vs,ws,h,t=>by
  obtain⟨x,r,rfl,h1,h2⟩:=h.cons_inv
  exact .cons h1 (aZ.append h2 t)
theorem aZ.reverse:∀{ds:List D} {vs:List V},aZ K O H ds vs->aZ K O H ds.reverse vs.reverse
 |[],vs,h=>by rw[h.nil_inv];exact .nil
 | d::ds,vs,h=>by
  obtain⟨x,r,rfl,h1,h2⟩:=h.cons_inv
  simp only[List.reverse_cons]
  exact h2.reverse.append (.cons h1 .nil)
theorem aZ.drop:∀{ds:List D} {vs:List V} (n:Nat),aZ K O H ds vs->aZ K O H (ds.drop n) (vs.drop n)
 |_,_,0,h=>h
 |[],vs,n+1,h=>by rw[h.nil_inv];exact .nil
 | d::ds,vs,n+1,h=>by
  obtain⟨x,r,rfl,h1,h2⟩:=h.cons_inv
  exact h2.drop n
theorem aZ.take:∀{ds:List D} {vs:List V} (n:Nat),aZ K O H ds vs->aZ K O H (ds.take n) (vs.take n)
 |_,_,0,_=>by simpa using aZ.nil
 |[],vs,n+1,h=>by rw[h.nil_inv];exact .nil
 | d::ds,vs,n+1,h=>by
  obtain⟨x,r,rfl,h1,h2⟩:=h.cons_inv
  exact .cons h1 (h2.take n)
theorem Rep.int {i:Int} {v:V} (h:Rep K O H (.int i) v):v= .int i:=h
theorem Rep.bl {b:Bool} {v:V} (h:Rep K O H (.bl b) v):v= .bl b:=h
theorem Rep.non {v:V} (h:Rep K O H .non v):v= .non:=h
theorem Rep.str {x:Str} {v:V} (h:Rep K O H (.str x) v):v= .str x:=h
inductive RTu (K:PySem.W.Frag) (O:Addr->Prop) (H:Hp) (ds:List D) (v:V):Prop
 |mk (a:Addr) (xs:List V) (e:v= .ref a) (h:SqT K H a xs) (t:aZ K O H ds xs)
inductive RLi (K:PySem.W.Frag) (O:Addr->Prop) (H:Hp) (ds:List D) (v:V):Prop
 |mk (a:Addr) (xs:List V) (e:v= .ref a) (h:SqL K H a xs) (n:¬O a) (t:aZ K O H ds xs)
theorem Rep.tup {ds:List D} {v:V} (h:Rep K O H (.tup ds) v):RTu K O H ds v:=by
 obtain⟨a,xs,e,h,t⟩:=h;exact⟨a,xs,e,h,t⟩
theorem Rep.lst {ds:List D} {v:V} (h:Rep K O H (.lst ds) v):RLi K O H ds v:=by
 obtain⟨a,xs,e,h,n,t⟩:=h;exact⟨a,xs,e,h,n,t⟩
theorem cO (i:Int):Rep K O H (.int i) (.int i):=show V.int i=V.int i from rfl
theorem gb (b:Bool):Rep K O H (.bl b) (.bl b):=show V.bl b=V.bl b from rfl
theorem uF:Rep K O H .non .non:=show V.non=V.non from rfl
theorem Mr (x:Str):Rep K O H (.str x) (.str x):=show V.str x=V.str x from rfl
theorem jz {ds:List D} {a:Addr} {xs:List V} (h:SqT K H a xs) (r:aZ K O H ds xs):Rep K O H (.tup ds) (.ref a):=show ∃b ys,V.ref a= .ref b/\SqT K H b ys/\aZ K O H ds ys from ⟨a,xs,rfl,h,r⟩
theorem uG {ds:List D} {a:Addr} {xs:List V} (h:SqL K H a xs) (n:¬O a) (r:aZ K O H ds xs):Rep K O H (.lst ds) (.ref a):=show ∃b ys,V.ref a= .ref b/\SqL K H b ys/\¬O b/\aZ K O H ds ys from ⟨a,xs,rfl,h,n,r⟩
end
inductive Ob where
 |exc (c:Str) |fn (a:Addr)
set_option genInjectivity true in
inductive Ent where
 |val (d:D) |lst (ds:List D) |HF (kvs:List (Key×D)) |obj (t:Ob)
noncomputable def Ent.own:Ent->Bool
 | .val _=>false
 | .obj _=>false
 |_=>true
noncomputable def Ent.ZQ:Ent->Bool
 | .val _=>true
 |_=>false
theorem agV {e:Ent} (h:e.ZQ=true):e.own=false:=by cases e <;> first |rfl |injection h
noncomputable abbrev aq:=List (Option Ent)
noncomputable def amU (K:PySem.W.Frag) (O:Addr->Prop) (H:Hp) (kvs:List (Key×D)) (ys:List (Key×V)):Prop:=kvs.map (·.1)=ys.map (·.1)/\aZ K O H (kvs.map (·.2)) (ys.map (·.2))
noncomputable def uO (K:PySem.W.Frag) (H:Hp):Ob->V->Prop
 | .exc c,v=>∃a o C,v= .ref a/\H a=some (.frz o (.own a))/\o.cls= .ref C/\o.dict=none/\(∃vs,o.data= .fields vs)/\PySem.W.nsIn K mainGlobals c=some (some (.ref C))
 | .fn a,v=>v= .ref a/\∃o fd,H a=some (.frz o (.own a))/\o.data= .func fd
noncomputable def sY (K:PySem.W.Frag) (O:Addr->Prop) (H:Hp):Ent->V->Prop
 | .val d,v=>Rep K O H d v
 | .lst ds,v=>∃a xs,v= .ref a/\O a/\H a=some (.lst xs)/\aZ K O H ds xs
 | .HF kvs,v=>∃a ys,v= .ref a/\O a/\H a=some (.dK ys)/\amU K O H kvs ys
 | .obj t,v=>uO K H t v
inductive EGt (K:PySem.W.Frag) (O:Addr->Prop) (H:Hp) (e:Ent) (σ:St) (i:Nat):Prop
 |mk (v:V) (h:σ[i]?=some (some v)) (r:sY K O H e v)
structure Env (K:PySem.W.Frag) (O:Addr->Prop) (H:Hp) (ρ:aq) (σ:St):Prop where
 get:∀(i:Nat) e,ρ[i]?=some (some e)->EGt K O H e σ i
 sep:∀(i j:Nat) e e' v,i≠j->ρ[i]?=some (some e)->ρ[j]?=some (some e')->e.own=true->e'.own=true->σ[i]?=some (some v)->σ[j]?=some (some v)->False
structure In (X:Cx) (O:Addr->Prop) (H:Hp) (ρ:aq) (σ:St):Prop where
 env:Env X.K O H ρ σ
 al:∀a,O a->∃o,H a=some o
 len:σ.length=X.N.length
 sZ:ρ.length=X.N.length
section
variable {X:Cx} {O:Addr->Prop} {H H1:Hp} {ρ:aq} {σ:St} {K:PySem.W.Frag}
theorem uO.fz (s:∀b o u,H b=some (.frz o u)->H1 b=some (.frz o u)):∀{t:Ob} {v:V},uO K H t v->uO K H1 t v
 | .exc _,_,z=>by
  obtain⟨a,o,C,e,h,q,n⟩:=z
  exact⟨a,o,C,e,s _ _ _ h,q,n⟩
 | .fn _,_,z=>by
  obtain⟨e,o,fd,h,q⟩:=z
  exact⟨e,o,fd,s _ _ _ h,q⟩
theorem uO.same (s:Same H H1) {t:Ob} {v:V} (h:uO K H t v):uO K H1 t v:=h.fz λ Z Z Z q=>s _ _ q
theorem sY.same (s:Same H H1):∀{e:Ent} {v:V},sY K O H e v->sY K O H1 e v
 | .val d,v,h=>Rep.same s h
 | .lst ds,v,z=>by
  obtain⟨a,xs,e,o,h,r⟩:=z
  exact⟨a,xs,e,o,s _ _ h,r.same s⟩
 | .HF kvs,v,z=>by
  obtain⟨a,xs,e,o,h,k,r⟩:=z
  exact⟨a,xs,e,o,s _ _ h,k,r.same s⟩
 | .obj t,v,h=>uO.same s h
theorem In.same (i:In X O H ρ σ) (s:Same H H1):In X O H1 ρ σ:=
 ⟨⟨λ j e h=>let ⟨v,h1,h2⟩:=i.env.get j e h;⟨v,h1,h2.same s⟩,i.env.sep⟩,λ a h=>let ⟨o,q⟩:=i.al a h;⟨o,s _ _ q⟩,i.len,i.sZ⟩
end
noncomputable def Exc (h:Heap) (e C:Addr) (T:Option Addr):Prop:=∃(oe:Obj) (vs:Array Value),h.get? e=some oe/\oe.cls= .ref C/\oe.dict=none/\oe.data= .fields vs/\match T with
 |none=>vs[1]?=some Value.none
 |some t=>vs[1]?=some (.ref t)/\t≠e/\∃(ot:Obj) (ts:Array Value),h.get? t=some ot/\ot.data= .fields ts/\ts[3]?=some Value.none
structure Rsd (P:Program) (w:World) (fs:List Addr) (H:Hp) (s:Shared) (a C:Addr) (T:Option Addr) (s':Shared) (H':Hp):Prop where
 same:Same H H'
 un:Un fs [] H H' s.heap s'.heap
 hok:HOk P w H' s'.heap
 os:s'.os=s.os
 bare:AllBare s'.gens
 exc:Exc s'.heap a C T
 na:s.heap.get? a=none
 ha:H' a=none
 nt:∀t,T=some t->s.heap.get? t=none/\H' t=none
noncomputable def PJ (X:Cx) (c:Str) (σ:St) (H:Hp):Prop:=∀(H1:Hp) (pins:List (Addr×Obj)) (s:Shared) (a C:Addr) (T:Option Addr) (s':Shared) (H':Hp),Same H H1->Inv X pins σ H1 s->
 PySem.W.nsIn X.K mainGlobals c=some (some (.ref C))->Rsd X.prog X.w (frs X.stack) H1 s a C T s' H'->X.xe (.ref a) s'
theorem PJ.same {X:Cx} {c:Str} {σ:St} {H H1:Hp} (h:PJ X c σ H) (s:Same H H1):PJ X c σ H1:=λ H2 pins s0 a C T s' H' s2=>h H2 pins s0 a C T s' H' (s.trans s2)
noncomputable def good {α β:Type} (X:Cx) (Rl:(Addr->Prop)->Hp->α->β->Prop) (O:Addr->Prop) (r:R α) (σ:St) (H:Hp) (Q:β->Hp->Prop):Prop:=match r with
 | .ok a=>∀b H',Same H H'->Rl O H' a b->Q b H'
 | .err c=>PJ X c σ H
 | .bad=>False
theorem good.same {α β:Type} {X:Cx} {Rl:(Addr->Prop)->Hp->α->β->Prop} {O:Addr->Prop} {r:R α} {σ:St} {H H1:Hp} {Q:β->Hp->Prop} (h:good X Rl O r σ H Q) (s:Same H H1):good X Rl O r σ H1 Q:=by
 cases r with
 |ok a=>exact λ b H' s' q=>h b H' (s.trans s') q
 |err c=>exact PJ.same (show PJ X c σ H from h) s
 |bad=>exact h
inductive TGd {α β:Type} (X:Cx) (Rl:(Addr->Prop)->Hp->α->β->Prop) (f:aq->R α) (σ:St) (H:Hp) (Q:β->Hp->Prop):Prop
 |mk (ρ:aq) (O:Addr->Prop) (j:In X O H ρ σ) (g:good X Rl O (f ρ) σ H Q):TGd X Rl f σ H Q
noncomputable def tG {α β:Type} (X:Cx) (Rl:(Addr->Prop)->Hp->α->β->Prop) (f:aq->R α):St->Hp->(β->Hp->Prop)->Prop:=λ σ H Q=>TGd X Rl f σ H Q
noncomputable abbrev rB:(Addr->Prop)->Hp->Bool->Bool->Prop:=λ Z Z a b=>a=b
noncomputable abbrev rD (X:Cx):(Addr->Prop)->Hp->D->V->Prop:=λ O H d v=>Rep X.K O H d v
noncomputable abbrev ZR (X:Cx):(Addr->Prop)->Hp->List D->List V->Prop:=λ O H d v=>aZ X.K O H d v
noncomputable def DE (X:Cx) (e:Expr) (f:aq->R D):Prop:=PE X e (tG X (rD X) f)
noncomputable def DT (X:Cx) (e:Expr) (f:aq->R Bool):Prop:=PT X e (tG X rB f)
noncomputable def DW (X:Cx) (e:Expr) (f:aq->R Bool):Prop:=PW X e (tG X rB f)
noncomputable def DA (X:Cx) (es:List Expr) (f:aq->R (List D)):Prop:=PA X es (tG X (ZR X) f)
theorem PE.imp {X:Cx} {e:Expr} {t t':TE} (h:PE X e t) (w:∀σ H Q,t' σ H Q->t σ H Q):PE X e t':=λ pins s σ H Q I q=>h pins s σ H Q I (w σ H Q q)
theorem PT.imp {X:Cx} {e:Expr} {t t':TT} (h:PT X e t) (w:∀σ H Q,t' σ H Q->t σ H Q):PT X e t':=λ pins s σ H Q I q=>h pins s σ H Q I (w σ H Q q)
theorem PW.imp {X:Cx} {e:Expr} {t t':TT} (h:PW X e t) (w:∀σ H Q,t' σ H Q->t σ H Q):PW X e t':=λ wh pins s σ H Q I q=>h wh pins s σ H Q I (w σ H Q q)
theorem PA.imp {X:Cx} {e:List Expr} {t t':TA} (h:PA X e t) (w:∀σ H Q,t' σ H Q->t σ H Q):PA X e t':=λ pos pins s σ H Q I q=>h pos pins s σ H Q I (w σ H Q q)
section
variable {X:Cx} {O:Addr->Prop} {H:Hp} {ρ:aq} {σ:St}
theorem go {α β γ δ:Type} {Rl:(Addr->Prop)->Hp->α->β->Prop} {Rm:(Addr->Prop)->Hp->γ->δ->Prop} {f:aq->R α} {g:α->R γ} {Q:δ->Hp->Prop} {Q':β->Hp->Prop}
  (i:In X O H ρ σ) (h:good X Rm O ((f ρ).bind g) σ H Q)
  (k:∀a b H1,f ρ= .ok a->Same H H1->Rl O H1 a b->In X O H1 ρ σ->good X Rm O (g a) σ H1 Q->Q' b H1):tG X Rl f σ H Q':=by
 refine⟨ρ,O,i,?_⟩
 cases e:f ρ with
 |ok a=>rw[e] at h;exact λ b H1 s r=>k a b H1 e s r (i.same s) (good.same h s)
 |err c=>rw[e] at h;exact h
 |bad=>rw[e] at h;exact h
theorem fin {α β:Type} {Rl:(Addr->Prop)->Hp->α->β->Prop} {a:α} {b:β} {Q:β->Hp->Prop} (h:good X Rl O (.ok a) σ H Q) (r:Rl O H a b):Q b H:=h b H (Same.refl H) r
end
end Pu
namespace Pu
open PySem PySem.Spec L2
open PyProof.Rows hiding St
theorem Same.upd {H:Hp} {p:Addr} {o:HO} (h:H p=none):Same H (L2.upd H p o):=λ b u e=>by
 rw[upd_ne (ne_of_none e h)];exact e
theorem Rep.uH {X:Cx} {O:Addr->Prop} {H:Hp} {p:Addr} {ds:List D} {xs:List V} (h:H p=none) (r:aZ X.K O H ds xs):Rep X.K O (upd H p (.tup xs)) (.tup ds) (.ref p):=
 jz (SqT.of upd_same) (r.same (Same.upd h))
theorem In.Dh {X:Cx} {O:Addr->Prop} {H:Hp} {ρ:aq} {σ:St} (i:In X O H ρ σ) {p:Addr} (h:H p=none):¬O p:=λ z=>by
 obtain⟨o,e⟩:=i.al p z
 rw[h] at e;injection e
theorem Rep.uI {X:Cx} {O:Addr->Prop} {H:Hp} {p:Addr} {ds:List D} {xs:List V} (h:H p=none) (n:¬O p) (r:aZ X.K O H ds xs):Rep X.K O (upd H p (.lst xs)) (.lst ds) (.ref p):=
 uG (SqL.of upd_same) n (r.same (Same.upd h))
section
variable {X:Cx} {a b c:Expr} {f g h:aq->R D} {pos:Pos}
noncomputable def ak (ρ:aq) (i:Nat):R D:=match ρ[i]? with
 |some (some (.val d))=> .ok d
 |_=> .bad
theorem dv (i:Nat) {x:Str} {pos:Pos} (hN:autoParam (X.N[i]?=some x) bB._auto_1) (hv:autoParam (Vis X.env.scope x) ZM._auto_1) (hd:autoParam ((x ==("__debug__" :Str))=false) dM._auto_1) (hcd:autoParam ((x ==("__classdict__" :Str))=false) dM._auto_1):
  DE X (.Name x pos) (λ ρ=>ak ρ i):=by
 refine PE.imp (pe_var hN hv hd hcd) λ σ H Q h=>?_
 obtain⟨ρ,O,j,h⟩:=h
 have h:good X (rD X) O (ak ρ i) σ H Q:=h
 unfold ak at h
 rcases e:ρ[i]? with _ |_ |(d |_ |_ |_) <;> rw[e] at h
 ·exact h.elim
 ·exact h.elim
 ·obtain⟨v,e1,r⟩:=j.env.get i _ e
  exact⟨v,e1,fin h r⟩
 ·exact h.elim
 ·exact h.elim
 ·exact h.elim
theorem Ms {e:Expr} {d:D} {v:V} (h:PE X e (tC v)) (r:∀O H,Rep X.K O H d v):DE X e (λ Z=> .ok d):=PE.imp h λ σ H Q h=>by
 obtain⟨ρ,O,j,h⟩:=h
 exact fin h (r O H)
theorem aJ {i:Int} {j pos}:DE X (.Constant (.int i) j pos) (λ Z=> .ok (.int i)):=Ms pe_int λ Z Z=>cO i
theorem JV {i:Bool} {j pos}:DE X (.Constant (.bool i) j pos) (λ Z=> .ok (.bl i)):=Ms pe_bl λ Z Z=>gb i
theorem jV {j pos}:DE X (.Constant .none j pos) (λ Z=> .ok .non):=Ms pe_non λ Z Z=>uF
theorem Di {x:Str} {j pos}:DE X (.Constant (.str x) j pos) (λ Z=> .ok (.str x)):=Ms pe_str λ Z Z=>Mr x
theorem pq {x:Str} {i:Int} {t:Tok} {pos:Pos} (hg:Gl X x) (hm:X.mg x=some (.int i t)) (hd:autoParam ((x ==("__debug__" :Str))=false) dM._auto_1):DE X (.Name x pos) (λ Z=> .ok (.int i)):=
 Ms (pe_glob (v:= .int i) hg hm ⟨t,rfl⟩ hd) λ Z Z=>cO i
noncomputable def kJ (X:Cx) (o:Value->Value->Sem Value) (k:D->D->R D):Prop:=∃r:R2,OpR X o r/\
 ∀(ρ:aq) (O:Addr->Prop) (σ:St) (H:Hp) (Q:VK) (x y:V) (dx dy:D),In X O H ρ σ->Rep X.K O H dx x->Rep X.K O H dy y->good X (rD X) O (k dx dy) σ H Q->r x y H Q
noncomputable def bin (f g:aq->R D) (k:D->D->R D):aq->R D:=λ ρ=>(f ρ).bind λ x=>(g ρ).bind λ y=>k x y
theorem JW {r:R2} {k:D->D->R D} {σ:St} {H:Hp} {Q:VK}
  (hr:∀(ρ:aq) (O:Addr->Prop) (σ:St) (H:Hp) (Q:VK) (x y:V) (dx dy:D),In X O H ρ σ->Rep X.K O H dx x->Rep X.K O H dy y->good X (rD X) O (k dx dy) σ H Q->r x y H Q)
  (h:tG X (rD X) (bin f g k) σ H Q):tOp r (tG X (rD X) f) (tG X (rD X) g) σ H Q:=by
 obtain⟨ρ,O,j,h⟩:=h
 refine go j h λ dx x H1 e1 s1 r1 j1 h1=>?_
 exact go j1 h1 λ dy y H2 e2 s2 r2 j2 h2=>hr ρ O σ H2 Q x y dx dy j2 (r1.same s2) r2 h2
theorem aW {op:Operator} {k:D->D->R D} (ho:kJ X (binaryOp op) k) (ha:DE X a f) (hb:DE X b g):DE X (.BinOp a op b pos) (bin f g k):=by
 obtain⟨r,ho,hr⟩:=ho
 exact PE.imp (pe_op ho ha hb) λ σ H Q h=>JW hr h
theorem JX {op:CmpOp} {k:D->D->R D} (ho:kJ X (compareOp op) k) (ha:DE X a f) (hb:DE X b g) (hm:autoParam (behindInMarks op b=false) ap9._auto_1):DE X (.Compare a [op] [b] pos) (bin f g k):=by
 obtain⟨r,ho,hr⟩:=ho
 exact PE.imp (pe_cmpR ho ha hb hm) λ σ H Q h=>JW hr h
noncomputable def asB:D->R Bool
 | .bl b=> .ok b
 |_=> .bad
noncomputable def cL (f:aq->R D):aq->R Bool:=λ ρ=>(f ρ).bind asB
theorem Tq {t:TE} {k:aq->R D} {σ:St} {H:Hp} {Q:Bool->Hp->Prop} (w:∀Q,tG X (rD X) k σ H Q->t σ H Q) (h:tG X rB (cL k) σ H Q):tTest t σ H Q:=by
 refine w _ ?_
 obtain⟨ρ,O,j,h⟩:=h
 refine go j h λ d x H1 e1 s1 r1 j1 h1=>?_
 cases d with
 |bl b=>exact⟨b,r1.bl,fin h1 rfl⟩
 |_=>exact h1.elim
theorem cI {op:CmpOp} {k:D->D->R D} (ho:kJ X (compareOp op) k) (ha:DE X a f) (hb:DE X b g) (hm:autoParam (behindInMarks op b=false) ap9._auto_1):DT X (.Compare a [op] [b] pos) (cL (bin f g k)):=by
 obtain⟨r,ho,hr⟩:=ho
 exact PT.imp (pt_cmpR ho ha hb hm) λ σ H Q h=>Tq (λ Q h=>JW hr h) h
theorem zc {e:Expr} (h:DE X e f) (he:autoParam (∀whole,isTrue e X.env whole=(do let v <-whole;standAt e.pos;holding [v] (truthy v))) ZL._auto_1):DT X e (cL f):=
 PT.imp (pt_val h he) λ σ H Q h=>Tq (t:=tG X (rD X) f) (λ Q h=>h) h
noncomputable def iD (k:Int->Int->R D):D->D->R D
 | .int i,.int j=>k i j
 |_,_=> .bad
set_option tactic.hygienic true in
theorem G4 {o:Value->Value->Sem Value} {C:Int->Int->Prop} {g:Int->Int->V} {k:Int->Int->R D} (ho:OpR X o (rI C g)) (hk:∀i j,k i j= .bad\/∃d,k i j= .ok d/\C i j/\∀K O H,Rep K O H d (g i j)):kJ X o (iD k):=by
 refine⟨_,ho,λ ρ O σ H Q x y dx dy j0 rx ry h=>?_⟩
 cases dx <;> cases dy <;> first
  |exact h.elim
  |skip
 rename_i i j
 rcases hk i j with e |⟨d,e,c,r⟩
 ·have h':good X (rD X) O (k i j) σ H Q:=h
  rw[e] at h';exact h'.elim
 ·have h':good X (rD X) O (k i j) σ H Q:=h
  rw[e] at h'
  exact⟨i,j,rx.int,ry.int,c,fin h' (r _ _ _)⟩
set_option tactic.hygienic true in
theorem uP {o:Value->Value->Sem Value} {g:Int->Int->V} {k:Int->Int->R D} (ho:OpR X o (rI0 g)) (hk:∀i j,∃d,k i j= .ok d/\∀K O H,Rep K O H d (g i j)):kJ X o (iD k):=by
 refine⟨_,ho,λ ρ O σ H Q x y dx dy j0 rx ry h=>?_⟩
 cases dx <;> cases dy <;> first
  |exact h.elim
  |skip
 rename_i i j
 obtain⟨d,e,r⟩:=hk i j
 have h':good X (rD X) O (k i j) σ H Q:=h
 rw[e] at h'
 exact⟨i,j,rx.int,ry.int,fin h' (r _ _ _)⟩
noncomputable def dX:D->D->R D:=iD λ i j=> .ok (.int (i - j))
noncomputable def ji:D->D->R D:=iD λ i j=>if (-(2 ^ 64) < i/\i < 2 ^ 64)\/(-(2 ^ 64) < j/\j < 2 ^ 64) then .ok (.int (i*j)) else .bad
noncomputable def jw:D->D->R D:=iD λ i j=>if 0 < j/\j < 2 ^ 64 then .ok (.int (i / j)) else .bad
noncomputable def ig:D->D->R D:=iD λ i j=>if 0 < j then .ok (.int (i % j)) else .bad
noncomputable def xr:D->D->R D:=iD λ i j=>if 0<=j/\j<=1000000/\i.natAbs < 2 ^ 64 then .ok (.int (i ^ j.toNat)) else .bad
noncomputable def ltI:D->D->R D:=iD λ i j=> .ok (.bl (decide (i < j)))
noncomputable def HJ:D->D->R D:=iD λ i j=> .ok (.bl (decide (i<=j)))
noncomputable def zf:D->D->R D:=iD λ i j=> .ok (.bl (decide (j < i)))
noncomputable def geI:D->D->R D:=iD λ i j=> .ok (.bl (decide (j<=i)))
theorem dD:kJ X (binaryOp .Sub) dX:=uP op_sub λ i j=>⟨_,rfl,λ Z Z Z=>cO _⟩
theorem aaJ:kJ X (compareOp .Lt) ltI:=uP op_lt λ i j=>⟨_,rfl,λ Z Z Z=>gb _⟩
theorem Ad:kJ X (compareOp .LtE) HJ:=uP op_le λ i j=>⟨_,rfl,λ Z Z Z=>gb _⟩
theorem aaK:kJ X (compareOp .Gt) zf:=uP op_gt λ i j=>⟨_,rfl,λ Z Z Z=>gb _⟩
theorem amV:kJ X (compareOp .GtE) geI:=uP op_ge λ i j=>⟨_,rfl,λ Z Z Z=>gb _⟩
theorem G5 {c:Prop} [Decidable c] (d:D) {P:D->Prop} (hP:c->P d):(if c then R.ok d else R.bad)=R.bad\/∃d',(if c then R.ok d else R.bad)=R.ok d'/\c/\P d':=by
 by_cases h:c
 ·exact .inr ⟨d,by rw[if_pos h],h,hP h⟩
 ·exact .inl (by rw[if_neg h])
theorem sG:kJ X (binaryOp .Mult) ji:=G4 op_mul λ i j=>G5 (.int (i*j)) (P:=λ d=>∀K O H,Rep K O H d (.int (i*j))) λ Z Z Z Z=>cO _
theorem ac3 {j:Int} (h0:0 < j) (h:j < 2 ^ 64):j.natAbs.log2 < 9000:=by
 have h1:j.natAbs≠0:=by exact anz h0
 have h2:j.natAbs < 2 ^ 64:=by omega
 have h3:j.natAbs.log2 < 64:=(Nat.log2_lt h1).mpr h2
 exact anA h3
theorem afc:OpR X (binaryOp .FloorDiv) (rI (λ Z j=>0 < j/\j < 2 ^ 64) λ i j=> .int (i / j)):=opI λ i j Z Z Z Z Z hc q=>by
 refine floordiv_int (by have:=hc.1;exact anB hc) ?_ (.inl (PyProof.noPylong_of_log2 (ac3 hc.1 hc.2)))
 rw[Int.fdiv_eq_ediv_of_nonneg _ (by have:=hc.1;exact Int.le_of_lt this)]
 exact q
theorem uQ:kJ X (binaryOp .FloorDiv) jw:=G4 afc λ i j=>G5 (.int (i / j)) (P:=λ d=>∀K O H,Rep K O H d (.int (i / j))) λ Z Z Z Z=>cO _
theorem sH:kJ X (binaryOp .Mod) ig:=G4 op_mod λ i j=>G5 (.int (i % j)) (P:=λ d=>∀K O H,Rep K O H d (.int (i % j))) λ Z Z Z Z=>cO _
theorem ac4:kJ X (binaryOp .Pow) xr:=G4 op_pow λ i j=>G5 (.int (i ^ j.toNat)) (P:=λ d=>∀K O H,Rep K O H d (.int (i ^ j.toNat))) λ Z Z Z Z=>cO _
noncomputable def Tr (f g h:aq->R D) (k l:D->D->R D):aq->R D:=λ ρ=>(f ρ).bind λ x=>(g ρ).bind λ y=>(k x y).bind λ z=>match z with
 | .bl true=>(h ρ).bind λ w=>l y w
 | .bl false=> .ok (.bl false)
 |_=> .bad
noncomputable def xu (f g:aq->R D):aq->R D:=λ ρ=>(f ρ).bind λ x=>match x with
 | .bl true=>g ρ
 | .bl false=> .ok (.bl false)
 |_=> .bad
noncomputable def aiF (f:aq->R D):aq->R D:=λ ρ=>(f ρ).bind λ x=>match x with
 | .bl b=> .ok (.bl (!b))
 |_=> .bad
variable {rest:List Expr}
theorem zj {op} (h:DE X a f):DE X (.BoolOp op [a] pos) f:=pe_one h
theorem uR (ha:DE X a f) (hb:DE X (.BoolOp .And (b::rest) pos) g):DE X (.BoolOp .And (a::b::rest) pos) (xu f g):=by
 refine PE.imp (pe_and ha hb) λ σ H Q h=>?_
 obtain⟨ρ,O,j,h⟩:=h
 refine go j h λ d x H1 e1 s1 r1 j1 h1=>?_
 cases d with
 | bl k=>
  cases k with
  |true=>exact⟨true,r1.bl,by rw[if_pos rfl];exact⟨ρ,O,j1,h1⟩⟩
  |false=>exact⟨false,r1.bl,by rw[if_neg Bool.false_ne_true];exact fin h1 (gb _)⟩
 |_=>exact h1.elim
theorem aiG (ha:DE X a f):DE X (.UnaryOp .Not a pos) (aiF f):=by
 refine PE.imp (pe_not ha) λ σ H Q h=>?_
 obtain⟨ρ,O,j,h⟩:=h
 refine go j h λ d x H1 e1 s1 r1 j1 h1=>?_
 cases d with
 |bl k=>exact⟨k,r1.bl,fin h1 (gb _)⟩
 |_=>exact h1.elim
noncomputable def o7 (f g:aq->R Bool):aq->R Bool:=λ ρ=>(f ρ).bind λ x=>if x=true then g ρ else .ok false
noncomputable def Cw (f g:aq->R Bool):aq->R Bool:=λ ρ=>(f ρ).bind λ x=>if x=true then .ok true else g ρ
noncomputable def xG (f:aq->R Bool):aq->R Bool:=λ ρ=>(f ρ).bind λ x=> .ok (!x)
variable {p q:aq->R Bool}
theorem G6 (ha:DT X a p):DW X (.BoolOp .And [a] pos) p:=pw_and1 ha
theorem Dj (ha:DT X a p):DW X (.BoolOp .Or [a] pos) p:=pw_or1 ha
theorem JZ (ha:DT X a p) (hb:DW X (.BoolOp .And (b::rest) pos) q):DW X (.BoolOp .And (a::b::rest) pos) (o7 p q):=by
 refine PW.imp (pw_and ha hb) λ σ H Q h=>?_
 obtain⟨ρ,O,j,h⟩:=h
 refine go j h λ d x H1 e1 s1 r1 j1 h1=>?_
 subst r1
 cases d with
 |true=>rw[if_pos rfl] at h1 |-;exact⟨ρ,O,j1,h1⟩
 |false=>rw[if_neg Bool.false_ne_true] at h1 |-;exact fin h1 rfl
theorem J0 (ha:DT X a p) (hb:DW X (.BoolOp .Or (b::rest) pos) q):DW X (.BoolOp .Or (a::b::rest) pos) (Cw p q):=by
 refine PW.imp (pw_or ha hb) λ σ H Q h=>?_
 obtain⟨ρ,O,j,h⟩:=h
 refine go j h λ d x H1 e1 s1 r1 j1 h1=>?_
 subst r1
 cases d with
 |true=>rw[if_pos rfl] at h1 |-;exact fin h1 rfl
 |false=>rw[if_neg Bool.false_ne_true] at h1 |-;exact⟨ρ,O,j1,h1⟩
theorem DW.dt {e:Expr} (h:DW X e p):DT X e p:=h _
theorem uT (ha:DT X a p):DT X (.UnaryOp .Not a pos) (xG p):=by
 refine PT.imp (pt_not ha) λ σ H Q h=>?_
 obtain⟨ρ,O,j,h⟩:=h
 refine go j h λ d x H1 e1 s1 r1 j1 h1=>?_
 subst r1
 exact fin h1 rfl
noncomputable def Dk (c:aq->R Bool) (f g:aq->R D):aq->R D:=λ ρ=>(c ρ).bind λ x=>if x=true then f ρ else g ρ
theorem Tc (hc:DT X c p) (ha:DE X a f) (hb:DE X b g):DE X (.IfExp c a b pos) (Dk p f g):=by
 refine PE.imp (pe_ifExp hc ha hb) λ σ H Q h=>?_
 obtain⟨ρ,O,j,h⟩:=h
 refine go j h λ d x H1 e1 s1 r1 j1 h1=>?_
 subst r1
 cases d with
 |true=>rw[if_pos rfl] at h1 |-;exact⟨ρ,O,j1,h1⟩
 |false=>rw[if_neg Bool.false_ne_true] at h1 |-;exact⟨ρ,O,j1,h1⟩
noncomputable def ao (f:aq->R D) (g:aq->R (List D)):aq->R (List D):=λ ρ=>(f ρ).bind λ x=>(g ρ).bind λ xs=> .ok (x::xs)
variable {es:List Expr} {fa:aq->R (List D)}
theorem aA:DA X [] (λ Z=> .ok []):=PA.imp pa_nil λ σ H Q h=>by
 obtain⟨ρ,O,j,h⟩:=h
 exact fin h .nil
theorem aj (ha:DE X a f) (hr:DA X es fa) (hs:autoParam (starEach (a::es) X.env=(false,eval a X.env)::starEach es X.env) bB._auto_1):DA X (a::es) (ao f fa):=by
 refine PA.imp (pa_cons ha hr hs) λ σ H Q h=>?_
 obtain⟨ρ,O,j,h⟩:=h
 refine go j h λ d x H1 e1 s1 r1 j1 h1=>?_
 exact go j1 h1 λ ds xs H2 e2 s2 r2 j2 h2=>fin h2 (.cons (r1.same s2) r2)
noncomputable def cap (k:List D->D) (ds:List D):R D:=if ds.length<=1000000 then .ok (k ds) else .bad
theorem iT:1000000<=sizeLine:=by rw[sizeLine_eq];decide
noncomputable def dh (fa:aq->R (List D)):aq->R D:=λ ρ=>(fa ρ).bind (cap .tup)
noncomputable def jN (fa:aq->R (List D)):aq->R D:=λ ρ=>(fa ρ).bind (cap .lst)
set_option tactic.hygienic true in
theorem dF {x1} (h:DA X es fa):DE X (.Tuple es x1 pos) (dh fa):=by
 refine PE.imp (pe_tup h) λ σ H Q h=>?_
 obtain⟨ρ,O,j,h⟩:=h
 refine go j h λ ds xs H1 e1 s1 r1 j1 h1=>?_
 unfold cap at h1
 split at h1
 ·rename_i hl
  exact⟨by rw[<-r1.length];exact z0b hl iT,λ p hp=>h1 _ _ (Same.upd hp) (Rep.uH hp r1)⟩
 ·exact h1.elim
set_option tactic.hygienic true in
theorem mD (h:DA X es fa):DE X (.List es pos) (jN fa):=by
 refine PE.imp (pe_lst h) λ σ H Q h=>?_
 obtain⟨ρ,O,j,h⟩:=h
 refine go j h λ ds xs H1 e1 s1 r1 j1 h1=>?_
 unfold cap at h1
 split at h1
 ·rename_i hl
  exact⟨by rw[<-r1.length];exact z0b hl iT,λ p hp=>h1 _ _ (Same.upd hp) (Rep.uI hp (j1.Dh hp) r1)⟩
 ·exact h1.elim
noncomputable def bZ:D->D->R D
 | .tup ds,.int i=>match atI ds i with |some d=> .ok d |none=> .bad
 | .lst ds,.int i=>match atI ds i with |some d=> .ok d |none=> .bad
 |_,_=> .bad
theorem aZ.atI {K:PySem.W.Frag} {O:Addr->Prop} {H:Hp} {ds:List D} {vs:List V} {i:Int} {d:D} (r:aZ K O H ds vs) (e:atI ds i=some d):∃v,atI vs i=some v/\Rep K O H d v:=by
 unfold L2.atI at e |-
 rw[r.length] at e
 cases q:ixN vs.length i with
 |none=>rw[q] at e;injection e
 | some k=>
  rw[q] at e
  obtain⟨v,h1,h2⟩:=r.get (i:=k) (d:=d) e
  exact⟨v,h1,h2⟩
set_option tactic.hygienic true in
theorem bW (ha:DE X a f) (hb:DE X b g) (hs:autoParam (PlainIx b) aiC._auto_1):DE X (.Subscript a b pos) (bin f g bZ):=by
 refine PE.imp (pe_ix ix_seq ha hb hs) λ σ H Q h=>JW (λ ρ O σ H Q x y dx dy j0 rx ry h=>?_) h
 cases dx <;> cases dy <;> first
  |exact h.elim
  |skip
 ·rename_i ds i
  obtain⟨p,xs,rfl,hq,r⟩:=rx.tup
  have h':good X (rD X) O (match L2.atI ds i with |some d=>R.ok d |none=>R.bad) σ H Q:=h
  cases e:L2.atI ds i with
  |none=>rw[e] at h';exact h'.elim
  | some d=>
   rw[e] at h'
   obtain⟨v,e1,rv⟩:=r.atI e
   exact .inr (.inl ⟨p,xs,i,v,rfl,ry.int,hq,e1,fin h' rv⟩)
 ·rename_i ds i
  obtain⟨p,xs,rfl,hq,_,r⟩:=rx.lst
  have h':good X (rD X) O (match L2.atI ds i with |some d=>R.ok d |none=>R.bad) σ H Q:=h
  cases e:L2.atI ds i with
  |none=>rw[e] at h';exact h'.elim
  | some d=>
   rw[e] at h'
   obtain⟨v,e1,rv⟩:=r.atI e
   exact .inl ⟨p,xs,i,v,rfl,ry.int,hq,e1,fin h' rv⟩
noncomputable def CallD (X:Cx) (u:Value) (k:List D->R D):Prop:=∃r:List V->Hp->VK->Prop,CallR X u r/\
 ∀(ρ:aq) (O:Addr->Prop) (σ:St) (H:Hp) (Q:VK) (xs:List V) (ds:List D),In X O H ρ σ->aZ X.K O H ds xs->good X (rD X) O (k ds) σ H Q->r xs H Q
noncomputable def aF (k:List D->R D) (fa:aq->R (List D)):aq->R D:=λ ρ=>(fa ρ).bind k
variable {x:Str} {pp:Pos} {k:List D->R D} {id T:String}
theorem bf (hc:CallD X (.builtin id) k) (hg:Gl X x) (hm:X.mg x=none) (hv:bootBuiltins x=some (.builtin id)) (ha:DA X (a::es) fa) (hn:autoParam (x≠"__name__") dM._auto_1) (hdb:autoParam ((x ==("__debug__" :Str))=false) dM._auto_1)
  (he:autoParam (starEach (a::es) X.env=(false,eval a X.env)::starEach es X.env) bB._auto_1) (hpl:autoParam ((backTo pos (starEach es X.env)).any (·.1)=false) bB._auto_1):DE X (.Call (.Name x pp) (a::es) [] pos) (aF k fa):=by
 obtain⟨r,hc,hr⟩:=hc
 refine PE.imp (pe_callB hc hg hm hv ha hn hdb he hpl) λ σ H Q h=>?_
 obtain⟨ρ,O,j,h⟩:=h
 exact go j h λ ds xs H1 e1 s1 r1 j1 h1=>hr ρ O σ H1 Q xs ds j1 r1 h1
theorem iu (hc:CallD X (.type T) k) (hg:Gl X x) (hm:X.mg x=none) (hv:bootBuiltins x=some (.type T)) (ha:DA X (a::es) fa) (hn:autoParam (x≠"__name__") dM._auto_1) (hdb:autoParam ((x ==("__debug__" :Str))=false) dM._auto_1)
  (he:autoParam (starEach (a::es) X.env=(false,eval a X.env)::starEach es X.env) bB._auto_1) (hpl:autoParam ((backTo pos (starEach es X.env)).any (·.1)=false) bB._auto_1):DE X (.Call (.Name x pp) (a::es) [] pos) (aF k fa):=by
 obtain⟨r,hc,hr⟩:=hc
 refine PE.imp (pe_callTy hc hg hm hv ha hn hdb he hpl) λ σ H Q h=>?_
 obtain⟨ρ,O,j,h⟩:=h
 exact go j h λ ds xs H1 e1 s1 r1 j1 h1=>hr ρ O σ H1 Q xs ds j1 r1 h1
end
end Pu
namespace Pu
open PySem PySem.Spec L2
open PyProof.Rows hiding St
section
variable {X:Cx} {a b c:Expr} {f g h:aq->R D} {pos:Pos}
theorem ac5 {r r':R2} {k l:D->D->R D} {σ:St} {H:Hp} {Q:VK}
  (hr:∀(ρ:aq) (O:Addr->Prop) (σ:St) (H:Hp) (Q:VK) (x y:V) (dx dy:D),In X O H ρ σ->Rep X.K O H dx x->Rep X.K O H dy y->good X (rD X) O (k dx dy) σ H Q->r x y H Q)
  (hl:∀(ρ:aq) (O:Addr->Prop) (σ:St) (H:Hp) (Q:VK) (x y:V) (dx dy:D),In X O H ρ σ->Rep X.K O H dx x->Rep X.K O H dy y->good X (rD X) O (l dx dy) σ H Q->r' x y H Q)
  (q:tG X (rD X) (Tr f g h k l) σ H Q):tChain r r' (tG X (rD X) f) (tG X (rD X) g) (tG X (rD X) h) σ H Q:=by
 obtain⟨ρ,O,j,q⟩:=q
 refine go j q λ dx x H1 e1 s1 r1 j1 h1=>?_
 refine go j1 h1 λ dy y H2 e2 s2 r2 j2 h2=>?_
 have r1':=r1.same s2
 cases e3:k dx dy with
 |bad=>rw[e3] at h2;exact h2.elim
 |err n=>rw[e3] at h2;exact hr ρ O σ H2 _ x y dx dy j2 r1' r2 (by rw[e3];exact h2)
 | ok z=>
  rw[e3] at h2
  refine hr ρ O σ H2 _ x y dx dy j2 r1' r2 ?_
  rw[e3]
  intro v H3 s3 r3
  have j3:=j2.same s3
  cases z with
  | bl t=>
   refine⟨t,r3.bl,?_⟩
   cases t with
   | true=>
    rw[if_pos rfl]
    exact go j3 (good.same h2 s3) λ dw w H4 e4 s4 r4 j4 h4=>hl ρ O σ H4 Q y w dy dw j4 (r2.same (s3.trans s4)) r4 h4
   | false=>
    rw[if_neg Bool.false_ne_true]
    exact fin (good.same h2 s3) (gb _)
  |_=>exact h2.elim
theorem Iz {op op':CmpOp} {k l:D->D->R D} (ho:kJ X (compareOp op) k) (ho':kJ X (compareOp op') l) (ha:DE X a f) (hb:DE X b g) (hc:DE X c h)
  (hm:autoParam (lastMarks [op,op'] [b,c]=false) ap8._auto_1):DE X (.Compare a [op,op'] [b,c] pos) (Tr f g h k l):=by
 obtain⟨r,ho,hr⟩:=ho
 obtain⟨r',ho',hr'⟩:=ho'
 exact PE.imp (pe_chain ho ho' ha hb hc hm) λ σ H Q q=>ac5 hr hr' q
end
noncomputable def YAt (K:PySem.W.Frag) (O:Addr->Prop) (J:It) (xs:List D) (H:Hp):Prop:=
 ∀i:Nat,(∀d,xs[i]?=some d->J.go i H/\∀x H',J.yld i H x H'->Same H H'/\Rep K O H' d x)/\(xs.length<=i->J.stop i H)
noncomputable def YR (K:PySem.W.Frag) (O:Addr->Prop) (H:Hp) (J:It) (xs:List D):Prop:=∀O' H',gO K O H O' H'->YAt K O' J xs H'
noncomputable abbrev rIt (X:Cx):(Addr->Prop)->Hp->List D->It->Prop:=λ O H xs J=>YR X.K O H J xs
noncomputable def DI (X:Cx) (tg iter:Expr) (fi:aq->R (List D)):Prop:=PI X tg iter (tG X (rIt X) fi)
theorem PI.imp {X:Cx} {tg e:Expr} {t t':TI} (h:PI X tg e t) (w:∀σ H Q,t' σ H Q->t σ H Q):PI X tg e t':=λ pins s σ H Q I q=>h pins s σ H Q I (w σ H Q q)
section
variable {X:Cx} {tg:Expr}
noncomputable def aog (K:PySem.W.Frag) (tl:TE):TI:=λ σ H R=>tl σ H λ x H1=>∃a,x= .ref a/\(((∃xs,SqL K H1 a xs)/\R (Itl K a) H1)\/((∃xs,SqT K H1 a xs)/\R (Itt K a) H1))
theorem aiH {l:Expr} {tl:TE} (hl:PE X l tl):PI X tg l (aog X.K tl):=by
 intro pins s σ H R I h
 refine thn (hl pins s σ H _ I h) λ v s1 bY=>?_
 obtain⟨x,H1,I1,r1,q1⟩:=bY
 obtain⟨a,e,q⟩:=q1
 subst e
 obtain rfl:=r1
 have fp:∀b∈[s1.heap.objs.size],FpOk X pins H1 b:=λ b hb=>by
  have e:b=s1.heap.objs.size:=by simpa using hb
  subst e
  exact I1.fpOk (z0g _) (I1.hok.fresh (z0g _))
 rcases q with⟨⟨xs,hq⟩,q⟩ |⟨⟨xs,hq⟩,q⟩
 ·obtain⟨its,rv,p,hz⟩:=I1.list hq
  refine wpAny_pyIter_list p.isList ?_
  exact⟨s1.heap.objs.size,[s1.heap.objs.size],_,_,H1,rfl,I1.kept (t':=s1.toks) λ b o e=>Heap.get?_push_of_some _ e,turn_list a _,⟨_,Heap.get?_push_size _ rfl,rfl,rfl⟩,fp,q⟩
 ·obtain⟨its,rv,p,hz⟩:=I1.tuple hq
  refine wpAny_pyIter_tuple (show s1.heap.IsTuple a its.toArray from p) ?_
  exact⟨s1.heap.objs.size,[s1.heap.objs.size],_,_,H1,rfl,I1.kept (t':=s1.toks) λ b o e=>Heap.get?_push_of_some _ e,turn_tuple a _,⟨_,Heap.get?_push_size _ rfl,rfl,rfl⟩,fp,q⟩
noncomputable def jj:D->R (List D)
 | .tup ds=> .ok ds
 | .lst ds=> .ok ds
 |_=> .bad
theorem YR.lst {K:PySem.W.Frag} {O:Addr->Prop} {H:Hp} {a:Addr} {ds:List D} {xs:List V} (h:SqL K H a xs) (n:¬O a) (r:aZ K O H ds xs):YR K O H (Itl K a) ds:=by
 intro O' H' q
 have h':SqL K H' a xs:=SqL.ext q.ext n h
 have r':=r.go q
 intro i
 refine⟨λ d e=>?_,λ e=>⟨xs,h',by rw[<-r.length];exact e⟩⟩
 obtain⟨v,e1,rv⟩:=r'.get e
 refine⟨⟨xs,v,h',e1⟩,λ x H2 y=>?_⟩
 obtain⟨eH,y⟩:=y
 subst eH
 have:=y xs h'
 rw[e1] at this;(injection this with aH;subst aH)
 exact⟨Same.refl _,rv⟩
theorem YR.tup {K:PySem.W.Frag} {O:Addr->Prop} {H:Hp} {a:Addr} {ds:List D} {xs:List V} (h:SqT K H a xs) (r:aZ K O H ds xs):YR K O H (Itt K a) ds:=by
 intro O' H' q
 have h':SqT K H' a xs:=SqT.ext q.ext h
 have r':=r.go q
 intro i
 refine⟨λ d e=>?_,λ e=>⟨xs,h',by rw[<-r.length];exact e⟩⟩
 obtain⟨v,e1,rv⟩:=r'.get e
 refine⟨⟨xs,v,h',e1⟩,λ x H2 y=>?_⟩
 obtain⟨eH,y⟩:=y
 subst eH
 have:=y xs h'
 rw[e1] at this;(injection this with aH;subst aH)
 exact⟨Same.refl _,rv⟩
noncomputable def fB (f:aq->R D):aq->R (List D):=λ ρ=>(f ρ).bind jj
theorem eG {l:Expr} {f:aq->R D} (h:DE X l f):DI X tg l (fB f):=by
 refine PI.imp (aiH h) λ σ H Q q=>?_
 obtain⟨ρ,O,j,q⟩:=q
 refine go j q λ d x H1 e1 s1 r1 j1 h1=>?_
 cases d with
 | tup ds=>
  obtain⟨a,xs,rfl,hq,r⟩:=r1.tup
  exact⟨a,rfl,.inr ⟨⟨xs,hq⟩,fin h1 (YR.tup hq r)⟩⟩
 | lst ds=>
  obtain⟨a,xs,rfl,hq,n,r⟩:=r1.lst
  exact⟨a,rfl,.inl ⟨⟨xs,hq⟩,fin h1 (YR.lst hq n r)⟩⟩
 |_=>exact h1.elim
noncomputable def upto (lo:Int) (n:Nat):List D:=(List.range n).map λ (i:Nat)=>D.int (lo+(i:Int))
theorem YR.rng {K:PySem.W.Frag} {O:Addr->Prop} {H:Hp} (lo:Int) (n:Nat):YR K O H (Itr lo n) (upto lo n):=by
 intro O' H' q i
 have hl:(upto lo n).length=n:=by simp[upto]
 refine⟨λ d e=>?_,λ e=>by rw[hl] at e;exact e⟩
 have hi:i < n:=by rw[<-hl];exact (List.getElem?_eq_some_iff.mp e).1
 have e2:d=D.int (lo+(i:Int)):=by
  simp only[upto,List.getElem?_map,List.getElem?_range hi] at e
  exact (Option.some.inj e).symm
 subst e2
 refine⟨hi,λ x H2 y=>?_⟩
 obtain⟨eH,y⟩:=y
 subst eH;subst y
 exact⟨Same.refl _,cO _⟩
noncomputable def aaL {α:Type} (k:Int->R α):List D->R α
 |[.int i]=>k i
 |_=> .bad
noncomputable def aaM {α:Type} (k:Int->Int->R α):List D->R α
 |[.int i,.int j]=>k i j
 |_=> .bad
noncomputable def afd {α:Type} (k l:List D->R α):List D->R α
 |[.tup ds]=>k ds
 |[.lst ds]=>l ds
 |_=> .bad
noncomputable def aaN {α:Type} (l:List D->R α):List D->R α
 |[.lst ds]=>l ds
 |_=> .bad
noncomputable def on1 {α:Type} (k:D->R α):List D->R α
 |[x]=>k x
 |_=> .bad
noncomputable def on2 {α:Type} (k:D->D->R α):List D->R α
 |[x,y]=>k x y
 |_=> .bad
theorem aiI {k:D->R α} (h:good X Rl O (on1 k ds) σ H Q):∃x,ds=[x]/\good X Rl O (k x) σ H Q:=by
 rcases ds with _ |⟨d,_ |⟨_,_⟩⟩
 ·exact h.elim
 ·exact⟨d,rfl,h⟩
 ·exact h.elim
theorem aiJ {k:D->D->R α} (h:good X Rl O (on2 k ds) σ H Q):∃x y,ds=[x,y]/\good X Rl O (k x y) σ H Q:=by
 rcases ds with _ |⟨d,_ |⟨e,_ |⟨_,_⟩⟩⟩
 ·exact h.elim
 ·exact h.elim
 ·exact⟨d,e,rfl,h⟩
 ·exact h.elim
theorem Mt {k:Int->R α} (h:good X Rl O (aaL k ds) σ H Q):∃i,ds=[.int i]/\good X Rl O (k i) σ H Q:=by
 rcases ds with _ |⟨d,_ |⟨_,_⟩⟩
 ·exact h.elim
 ·cases d with
  |int i=>exact⟨i,rfl,h⟩
  |_=>exact h.elim
 ·cases d <;> exact h.elim
theorem Mu {k:Int->Int->R α} (h:good X Rl O (aaM k ds) σ H Q):∃i j,ds=[.int i,.int j]/\good X Rl O (k i j) σ H Q:=by
 rcases ds with _ |⟨d,_ |⟨e,_ |⟨_,_⟩⟩⟩
 ·exact h.elim
 ·cases d <;> exact h.elim
 ·cases d with
  | int i=>
   cases e with
   |int j=>exact⟨i,j,rfl,h⟩
   |_=>exact h.elim
  |_=>exact h.elim
 ·cases d with
  |int i=>cases e <;> exact h.elim
  |_=>exact h.elim
theorem ZS {k l:List D->R α} (h:good X Rl O (afd k l ds) σ H Q):∃es,(ds=[.tup es]/\good X Rl O (k es) σ H Q)\/(ds=[.lst es]/\good X Rl O (l es) σ H Q):=by
 rcases ds with _ |⟨d,_ |⟨_,_⟩⟩
 ·exact h.elim
 ·cases d with
  |tup es=>exact⟨es,.inl ⟨rfl,h⟩⟩
  |lst es=>exact⟨es,.inr ⟨rfl,h⟩⟩
  |_=>exact h.elim
 ·cases d <;> exact h.elim
theorem Mv {l:List D->R α} (h:good X Rl O (aaN l ds) σ H Q):∃es,ds=[.lst es]/\good X Rl O (l es) σ H Q:=by
 rcases ds with _ |⟨d,_ |⟨_,_⟩⟩
 ·exact h.elim
 ·cases d with
  |lst es=>exact⟨es,rfl,h⟩
  |_=>exact h.elim
 ·cases d <;> exact h.elim
noncomputable def mF:List D->R (List D):=aaL λ j=>if -(2 ^ 62)<=j/\j < 2 ^ 62 then .ok (upto 0 j.toNat) else .bad
theorem aiK (j:Int):mF [.int j]=(if -(2 ^ 62)<=j/\j < 2 ^ 62 then .ok (upto 0 j.toNat) else .bad):=rfl
inductive R1v (K:PySem.W.Frag) (O:Addr->Prop) (H:Hp) (d:D) (xs:List V):Prop
 |mk (x:V) (e:xs=[x]) (h:Rep K O H d x)
inductive R2v (K:PySem.W.Frag) (O:Addr->Prop) (H:Hp) (d e:D) (xs:List V):Prop
 |mk (x y:V) (q:xs=[x,y]) (h:Rep K O H d x) (h':Rep K O H e y)
theorem aZ.one {K:PySem.W.Frag} {O:Addr->Prop} {H:Hp} {d:D} {xs:List V} (r:aZ K O H [d] xs):R1v K O H d xs:=by
 obtain⟨x,t,rfl,h1,h2⟩:=r.cons_inv
 rw[h2.nil_inv];exact⟨x,rfl,h1⟩
theorem aZ.two {K:PySem.W.Frag} {O:Addr->Prop} {H:Hp} {d e:D} {xs:List V} (r:aZ K O H [d,e] xs):R2v K O H d e xs:=by
 obtain⟨x,t,rfl,h1,h2⟩:=r.cons_inv
 obtain⟨y,rfl,h3⟩:=h2.one
 exact⟨x,y,rfl,h1,h3⟩
variable {a b:Expr} {fa:aq->R (List D)} {p pos:Pos}
set_option tactic.hygienic true in
theorem gP (hg:Gl X "range") (hm:X.mg "range" =none) (ha:DA X [a] fa) (hs:autoParam (starEach [a] X.env=[(false,eval a X.env)]) bB._auto_1):DI X tg (.Call (.Name "range" p) [a] [] pos) (λ ρ=>(fa ρ).bind mF):=by
 refine PI.imp (pi_range1 hg hm ha hs) λ σ H Q q=>?_
 obtain⟨ρ,O,j,q⟩:=q
 refine go j q λ ds xs H1 e1 s1 r1 j1 h1=>?_
 replace h1:=Mt h1
 obtain⟨i,rfl,h1⟩:=h1
 ·obtain⟨x,rfl,rx⟩:=r1.one
  split at h1
  ·rename_i hi
   exact⟨i,by rw[rx.int],hi.1,hi.2,fin h1 (YR.rng 0 i.toNat)⟩
  ·exact h1.elim
end
inductive DGp (X:Cx) (gt:D->aq->R aq) (v:V) (σ:St) (H:Hp) (Q:St->Hp->Prop):Prop
 |mk (ρ:aq) (O:Addr->Prop) (d:D) (ρ':aq) (j:In X O H ρ σ) (r:Rep X.K O H d v) (e:gt d ρ= .ok ρ') (q:∀σ',In X O H ρ' σ'->Q σ' H):DGp X gt v σ H Q
noncomputable def DG (X:Cx) (tg:Expr) (gt:D->aq->R aq):Prop:=PG X tg λ v σ H Q=>DGp X gt v σ H Q
inductive aiL (X:Cx) (gt:List D->aq->R aq) (vs:List V) (σ:St) (H:Hp) (Q:St->Hp->Prop):Prop
 |mk (ρ:aq) (O:Addr->Prop) (ds:List D) (ρ':aq) (j:In X O H ρ σ) (r:aZ X.K O H ds vs) (e:gt ds ρ= .ok ρ') (q:∀σ',In X O H ρ' σ'->Q σ' H):aiL X gt vs σ H Q
noncomputable def DGs (X:Cx) (ts:List Expr) (gt:List D->aq->R aq):Prop:=PGs X ts λ vs σ H Q=>aiL X gt vs σ H Q
section
variable {X:Cx} {pos:Pos}
theorem In.set {O:Addr->Prop} {H:Hp} {ρ:aq} {σ:St} (j:In X O H ρ σ) {i:Nat} (hi:i < X.N.length) {d:D} {v:V} (r:Rep X.K O H d v):In X O H (ρ.set i (some (.val d))) (σ.set i (some v)):=by
 have h1:i < ρ.length:=by rw[j.sZ];exact hi
 have h2:i < σ.length:=by rw[j.len];exact hi
 refine⟨⟨λ k e q=>?_,λ k l e e' u hkl qk ql ok ol sk sl=>?_⟩,j.al,by rw[List.length_set];exact j.len,by rw[List.length_set];exact j.sZ⟩
 ·by_cases hk:k=i
  ·subst hk
   rw[List.getElem?_set_self h1] at q
   (injection q with aH;injection aH with cV;subst cV)
   exact⟨v,List.getElem?_set_self h2,r⟩
  ·rw[List.getElem?_set_ne (Ne.symm hk)] at q
   obtain⟨u,q1,q2⟩:=j.env.get k e q
   exact⟨u,by rw[List.getElem?_set_ne (Ne.symm hk)];exact q1,q2⟩
 ·have hk:k≠i:=λ z=>by subst z;rw[List.getElem?_set_self h1] at qk;(injection qk with aH;injection aH with cV;subst cV);injection ok
  have hl:l≠i:=λ z=>by subst z;rw[List.getElem?_set_self h1] at ql;(injection ql with aH;injection aH with cV;subst cV);injection ol
  rw[List.getElem?_set_ne (Ne.symm hk)] at qk sk
  rw[List.getElem?_set_ne (Ne.symm hl)] at ql sl
  exact j.env.sep k l e e' u hkl qk ql ok ol sk sl
noncomputable def aV (i:Nat) (d:D) (ρ:aq):R aq:= .ok (ρ.set i (some (.val d)))
theorem bO (i:Nat) {x:Str} (hN:X.N.Nodup) (hi:autoParam (X.N[i]?=some x) bB._auto_1) (hx:autoParam (Loc X.env.scope x) ug._auto_1) (hf:autoParam (X.fn x=true\/X.env.scope.names.lookup x=some .local) uh._auto_1):DG X (.Name x pos) (aV i):=by
 intro pins s σ H v u Q I r h
 obtain⟨ρ,O,d,ρ',j,rd,e,q⟩:=h
 (injection e with aH;subst aH)
 exact pg_name hN hi hx hf pins s σ H v u Q I r (q _ (j.set (List.getElem?_eq_some_iff.mp hi).1 rd))
noncomputable def nilG:List D->aq->R aq
 |[],ρ=> .ok ρ
 |_,_=> .bad
noncomputable def bR (t:D->aq->R aq) (u:List D->aq->R aq):List D->aq->R aq
 |d::ds,ρ=>(t d ρ).bind λ ρ'=>u ds ρ'
 |_,_=> .bad
theorem nq:DGs X [] nilG:=by
 intro pins s σ H vs us Q I r h
 obtain⟨ρ,O,ds,ρ',j,rd,e,q⟩:=h
 cases ds with
 |nil=>(injection e with aH;subst aH);exact pgs_nil pins s σ H vs us Q I r ⟨rd.nil_inv,q _ j⟩
 |cons d ds=>injection e
theorem cU {e:Expr} {es:List Expr} {t:D->aq->R aq} {u:List D->aq->R aq} (h1:DG X e t) (h2:DGs X es u)
  (hs:autoParam ((assignEach (e::es) X.env).map (·.2)=assign e X.env::(assignEach es X.env).map (·.2)) bB._auto_1):DGs X (e::es) (bR t u):=by
 intro pins s σ H vs us Q I r h
 refine bc λ zQ=>?_
 obtain⟨ρ,O,ds,ρ',j,rd,e,q⟩:=h
 apply zQ;clear zQ
 refine bc λ zQ=>?_
 cases ds with
 |nil=>injection e
 | cons d ds=>
  apply zQ;clear zQ
  refine bc λ zQ=>?_
  obtain⟨x,xs,rfl,rx,rxs⟩:=rd.cons_inv
  apply zQ;clear zQ
  have e':(t d ρ).bind (λ ρ'=>u ds ρ')= .ok ρ':=e
  refine bc λ zQ=>?_
  cases q1:t d ρ with
  |bad=>rw[q1] at e';injection e'
  |err c=>rw[q1] at e';injection e'
  | ok ρ1=>
   apply zQ;clear zQ
   rw[q1] at e'
   refine pgs_cons h1 h2 hs pins s σ H _ us Q I r ⟨x,xs,rfl,ρ,O,d,ρ1,j,rx,q1,λ σ1 j1=>?_⟩
   exact⟨ρ1,O,ds,ρ',j1,rxs,e',q⟩
noncomputable def eV (u:List D->aq->R aq):D->aq->R aq
 | .tup ds,ρ=>u ds ρ
 |_,_=> .bad
noncomputable def eX (n:Nat) (u:List D->aq->R aq):List D->aq->R aq:=λ ds ρ=>if ds.length=n then u ds ρ else .bad
theorem pK {es:List Expr} {k:Nat} {u:List D->aq->R aq} {n:Nat} (hc:X.calm=true) (h:DGs X es u)
  (hn:autoParam ((assignEach es X.env).length=n) bB._auto_1) (hst:autoParam ((assignEach es X.env).findIdx? (·.1)=none) bB._auto_1):DG X (.Tuple es k pos) (eV (eX n u)):=by
 intro pins s σ H v w Q I r q
 obtain⟨ρ,O,d,ρ',j,rd,e,q⟩:=q
 cases d with
 | tup ds=>
  obtain⟨a,xs,rfl,hq,rs⟩:=rd.tup
  have e':(if ds.length=n then u ds ρ else .bad)= .ok ρ':=e
  by_cases hl:ds.length=n
  ·rw[if_pos hl] at e'
   exact pg_tup hc h hn hst pins s σ H _ w Q I r ⟨a,xs,rfl,hq,by rw[<-rs.length];exact hl,ρ,O,ds,ρ',j,rs,e',q⟩
  ·rw[if_neg hl] at e';injection e'
 |_=>injection e
end
end Pu
namespace Pu
open PySem PySem.Spec L2
open PyProof.Rows hiding St
noncomputable def pL (x:Str):List Str->Nat
 |[]=>0
 |y::r=>if x=y then 0 else pL x r+1
theorem aiM (x y:Str) (r:List Str):pL x (y::r)=if x=y then 0 else pL x r+1:=rfl
theorem Ae {x:Str}:∀{N:List Str},x∈N->N[pL x N]?=some x
 |[],h=>by simp at h
 | y ::r,h=>by
  rw[aiM]
  by_cases e:x=y
  ·rw[if_pos e,e];rfl
  ·rw[if_neg e]
   rcases List.mem_cons.mp h with z |z
   ·exact absurd z e
   ·simpa using Ae z
noncomputable def pull {α:Type} (N caps:List Str) (n:Nat) (l:List (Option α)):List (Option α):=List.replicate n none++caps.map λ x=>(l[pL x N]?).join
theorem Af {α:Type} (N caps:List Str) (n:Nat) (l:List (Option α)):(pull N caps n l).length=n+caps.length:=by simp[pull]
theorem join_some {α:Type} {o:Option (Option α)} {a:α} (h:o.join=some a):o=some (some a):=by
 cases o with
 |none=>injection h
 |some o=>exact congrArg some h
theorem uU {α:Type} {N caps:List Str} {n:Nat} {l:List (Option α)} {i:Nat} {a:α} (h:(pull N caps n l)[i]?=some (some a)):∃j x,i=n+j/\caps[j]?=some x/\l[pL x N]?=some (some a):=by
 unfold pull at h
 by_cases hi:i < n
 ·rw[List.getElem?_append_left (by simpa using hi),List.getElem?_replicate,if_pos hi] at h
  (injection h with aH;injection aH)
 ·rw[List.getElem?_append_right (by simpa using hi),List.length_replicate,List.getElem?_map] at h
  cases e:caps[i - n]? with
  |none=>rw[e] at h;injection h
  | some x=>
   rw[e] at h
   exact⟨i - n,x,by exact anC hi,e,join_some (Option.some.inj h)⟩
theorem Mw {α:Type} {N caps:List Str} {n:Nat} {l:List (Option α)} {j:Nat} {x:Str} (h:caps[j]?=some x):(pull N caps n l)[n+j]?=some (l[pL x N]?).join:=by
 unfold pull
 rw[List.getElem?_append_right (by simp),List.length_replicate,List.getElem?_map,show n+j - n=j by exact aif,h]
 rfl
noncomputable def fD (sc:Scope):List Str:=(sc.names.filter λ x=>decide (x.2= .free)).map (·.1)
noncomputable def Tt (outer sc:Scope) (ts N:List Str):Bool:=
 decide (sc.kind= .function) && sc.names.all (λ x=>(!decide (x.2= .local)) || decide (sc.names.lookup x.1=some .local)) && sc.names.all (λ x=>(!decide (x.2= .cell)) || decide (sc.names.lookup x.1=some .cell)) &&
  (fD sc).all (λ x=>(decide (outer.names.lookup x=some .cell) || decide (outer.names.lookup x=some .free)) && decide (x∈N) && decide (sc.names.lookup x=some .free)) && decide (ts++fD sc).Nodup
structure G7 (outer sc:Scope) (ts N:List Str):Prop where
 kind:sc.kind= .function
 loc:∀x∈sc.names,x.2= .local->sc.names.lookup x.1=some .local
 cel:∀x∈sc.names,x.2= .cell->sc.names.lookup x.1=some .cell
 out:∀x∈fD sc,outer.names.lookup x=some .cell\/outer.names.lookup x=some .free
 mem:∀x∈fD sc,x∈N
 PL:∀x∈fD sc,sc.names.lookup x=some .free
 nd:(ts++fD sc).Nodup
theorem amW {outer sc:Scope} {ts N:List Str} (h:Tt outer sc ts N=true):G7 outer sc ts N:=by
 unfold Tt at h
 simp only[Bool.and_eq_true,List.all_eq_true,decide_eq_true_eq,Bool.or_eq_true,Bool.not_eq_true',decide_eq_false_iff_not] at h
 obtain⟨⟨⟨⟨h1,h2⟩,h3⟩,h4⟩,h5⟩:=h
 exact⟨h1,λ x hx e=>(h2 x hx).resolve_left λ n=>n e,λ x hx e=>(h3 x hx).resolve_left λ n=>n e,λ x hx=>(h4 x hx).1.1,λ x hx=>(h4 x hx).1.2,λ x hx=>(h4 x hx).2,h5⟩
noncomputable def jx (cs:List (Str×Addr)):List (Str×NameKind)->List (Str×Addr)->List (Str×Addr)
 |[],acc=>acc
 |(n,k)::r,acc=>if k= .free then jx cs r ((n,(cs.lookup n).getD 0)::acc) else jx cs r acc
theorem aiN (cs:List (Str×Addr)) (acc:List (Str×Addr)):jx cs [] acc=acc:=rfl
theorem Dl (cs:List (Str×Addr)) (n:Str) (k:NameKind) (r:List (Str×NameKind)) (acc:List (Str×Addr)):jx cs ((n,k)::r) acc=if k= .free then jx cs r ((n,(cs.lookup n).getD 0)::acc) else jx cs r acc:=rfl
theorem aaO {scope:Scope} {env:PySem.Env} (h:∀x∈scope.names,x.2= .free->∃c,env.cells.lookup x.1=some c):closureFor scope env=pure (jx env.cells scope.names []):=by
 unfold closureFor
 have all:∀(l:List (Str×NameKind)) (acc:List (Str×Addr)),(∀x∈l,x.2= .free->∃c,env.cells.lookup x.1=some c)->
   (forIn l acc λ x r=>match x with |(name,kind)=>if (kind ==NameKind.free)=true then do let a <-cellOf env name;pure (ForInStep.yield ((name,a)::r)) else pure (ForInStep.yield r):Sem (List (Str×Addr)))=pure (jx env.cells l acc):=by
  intro l
  induction l with
  |nil=>intro acc Z;rfl
  | cons x r ih=>
   intro acc hx
   obtain⟨n,k⟩:=x
   rw[List.forIn_cons]
   rw[Dl]
   by_cases hk:k= .free
   ·obtain⟨c,hc⟩:=hx (n,k) List.mem_cons_self hk
    have hc:env.cells.lookup n=some c:=hc
    have e1:cellOf env n=pure c:=by unfold cellOf;rw[hc]
    subst hk
    simp only[e1,hc,Option.getD_some,beq_self_eq_true,if_true,pure_bind]
    exact ih _ λ y hy=>hx y (List.mem_cons_of_mem _ hy)
   ·have e2:(k ==NameKind.free)=false:=by simpa using hk
    simp only[e2,Bool.false_eq_true,if_false,pure_bind,hk]
    exact ih _ λ y hy=>hx y (List.mem_cons_of_mem _ hy)
 simpa using all scope.names [] h
theorem nT (cs:List (Str×Addr)):∀(l:List (Str×NameKind)) (acc:List (Str×Addr)),jx cs l acc=jx cs l []++acc
 |[],acc=>rfl
 | (n,k)::r,acc=>by
  rw[Dl,Dl]
  split
  ·rw[nT cs r (_::acc),nT cs r [_]];simp
  ·exact nT cs r acc
set_option tactic.hygienic true in
theorem uV (cs:List (Str×Addr)):∀(l:List (Str×NameKind)) {n:Str} {c:Addr},(n,c)∈jx cs l []->(n,NameKind.free)∈l/\c=(cs.lookup n).getD 0
 |[],_,_,h=>by simp[aiN] at h
 | (m, k)::r,n,c,h=>by
  rw[Dl] at h
  split at h
  ·rename_i hk
   rw[nT] at h
   rcases List.mem_append.mp h with h |h
   ·obtain⟨h1,h2⟩:=uV cs r h
    exact⟨List.mem_cons_of_mem _ h1,h2⟩
   ·have e:=List.mem_singleton.mp h
    cases e
    subst hk
    exact⟨List.mem_cons_self,rfl⟩
  ·obtain⟨h1,h2⟩:=uV cs r h
   exact⟨List.mem_cons_of_mem _ h1,h2⟩
set_option tactic.hygienic true in
theorem IK (cs:List (Str×Addr)):∀(l:List (Str×NameKind)) {n:Str},(n,NameKind.free)∈l->((jx cs l []).lookup n).isSome=true
 |[],_,h=>by simp at h
 | (m, k)::r,n,h=>by
  rw[Dl]
  split
  ·rename_i hk
   rw[nT,List.lookup_append]
   rcases List.mem_cons.mp h with e |h
   ·cases e
    simp[List.lookup_cons]
   ·simp[IK cs r h]
  ·rename_i hk
   rcases List.mem_cons.mp h with e |h
   ·cases e;exact absurd rfl hk
   ·exact IK cs r h
theorem d7:∀(l:List (Str×NameKind)) (n:Nat) (acc:List (Str×Addr)),cellsFrom n l acc=cellsFrom n l []++acc
 |[],_,_=>rfl
 | (m,k)::r,n,acc=>by
  unfold cellsFrom
  split
  ·rw[d7 r _ (_::acc),d7 r _ [_]];simp
  ·exact d7 r n acc
set_option tactic.hygienic true in
theorem lH:∀(l:List (Str×NameKind)) (n:Nat) {x:Str} {c:Addr},(x,c)∈cellsFrom n l []->(x,NameKind.cell)∈l/\n<=c
 |[],_,_,_,h=>by simp[cellsFrom] at h
 | (m, k)::r,n,x,c,h=>by
  unfold cellsFrom at h
  split at h
  ·rename_i hk
   rw[d7] at h
   rcases List.mem_append.mp h with h |h
   ·obtain⟨h1,h2⟩:=lH r _ h
    exact⟨List.mem_cons_of_mem _ h1,by exact z0e h2⟩
   ·have e:=List.mem_singleton.mp h
    cases e
    have:k= .cell:=by simpa using hk
    subst this
    exact⟨List.mem_cons_self,z0g _⟩
  ·obtain⟨h1,h2⟩:=lH r _ h
   exact⟨List.mem_cons_of_mem _ h1,h2⟩
section
variable {M:Model} {A:Around} {E:Value->Shared->Prop} {s:Shared}
theorem ac6 {scope:Scope} {globals:Addr} {cl:List (Str×Addr)} {qual:Str} {env:PySem.Env} {Q:PySem.Env->Shared->Prop}
  (hQ:Q (newEnv scope s.heap.objs.size globals (cellsFrom (s.heap.objs.size+1) scope.names cl) qual none .none (some env) builtinsNs) {s with heap:=pushCells (s.heap.push {cls:= .type "dict",data:= .dict #[]}) scope.names}):
  wpAny M A (newFunctionEnv scope globals cl [] qual none .none (some env)) Q E s:=by
 simp only[newFunctionEnv,Option.isSome_some,if_true]
 refine wpAny_bind (wpAny_alloc ?_)
 refine wpAny_bind (wpAny_layCells _ (λ name kind cells=>by cases hkc:kind ==NameKind.cell <;> simp[hkc]) _ _ _ _ ?_)
 rw[show ({s with heap:=s.heap.push {cls:= .type "dict",data:= .dict #[]}}:Shared).heap.objs.size=s.heap.objs.size+1 from Heap.size_push ..]
 exact wpAny_bind (wpAny_pure (wpAny_pure hQ))
end
noncomputable def iz (scope:Scope) (env:PySem.Env) (C:Addr):PySem.Env:=
 {scope:=relabel scope env,locals:=C,globals:=env.globals,cells:=cellsFrom (C+1) scope.names (jx env.cells scope.names []),qual:=env.qual,func:=none,code:=env.code,frame:=env.frame,builtins:=env.builtins}
noncomputable def dB (X:Cx) (scope:Scope) (ts:List Str) (C:Addr) (s:Shared) (H:Hp) (ex:List Addr):Cx where
 prog:=X.prog
 w:=X.w
 K:=X.K
 mg:=X.mg
 base:=X.base
 A:=X.A
 N:=ts++fD scope
 s₀:=s
 H₀:=H
 env:=iz scope X.env C
 outer:=X.stack
 stack:=X.stack
 ex:=ex
 fn:=λ x=>decide (scope.names.lookup x=some .cell)
 calm:=X.calm
 pn:=[]
 xe:=λ Z Z=>False
theorem qy {scope:Scope} {env:PySem.Env} {x:Str}:∀{names:List (Str×NameKind)},
  (names.map λ (n,k)=>if (k ==NameKind.free && env.scope.kind == .function && env.kindOf n ==some .cell) then (n,NameKind.cell) else (n,k)).lookup x =
   (names.lookup x).map λ k=>if (k ==NameKind.free && env.scope.kind == .function && env.kindOf x ==some .cell) then .cell else k
 |[]=>rfl
 | (n, k)::r=>by
  have ih:= @qy scope env x r
  rw[List.map_cons]
  show List.lookup x ((if (k ==NameKind.free && env.scope.kind == .function && env.kindOf n ==some .cell)=true then (n,NameKind.cell) else (n,k))::_)=_
  cases hx:x ==n with
  | true=>
   have e:x=n:=by simpa using hx
   subst e
   by_cases hc:(k ==NameKind.free && env.scope.kind == .function && env.kindOf x ==some .cell)=true
   ·rw[if_pos hc]
    simp only[List.lookup_cons,beq_self_eq_true,Option.map_some,hc,if_true]
   ·rw[if_neg hc]
    simp only[List.lookup_cons,beq_self_eq_true,Option.map_some,hc,if_false] <;> rfl
  | false=>
   by_cases hc:(k ==NameKind.free && env.scope.kind == .function && env.kindOf n ==some .cell)=true
   ·rw[if_pos hc]
    simp only[List.lookup_cons,hx]
    exact ih
   ·rw[if_neg hc]
    simp only[List.lookup_cons,hx]
    exact ih
theorem uW {sc:Scope} {x:Str} (h:(x,NameKind.free)∈sc.names):x∈fD sc:=List.mem_map.mpr ⟨(x,.free),List.mem_filter.mpr ⟨h,by simp⟩,rfl⟩
theorem agW {sc:Scope} {x:Str} (h:x∈fD sc):(x,NameKind.free)∈sc.names:=by
 obtain⟨⟨n,k⟩,h1,h2⟩:=List.mem_map.mp h
 obtain⟨h3,h4⟩:=List.mem_filter.mp h1
 have h4:k=NameKind.free:=by simpa using h4
 subst h4
 have h2:n=x:=h2
 subst h2
 exact h3
section
variable {X:Cx} {scope:Scope} {ts:List Str} {C:Addr}
theorem mH (B:G7 X.env.scope scope ts X.N) (has:∀x,(X.env.kindOf x=some .cell\/X.env.kindOf x=some .free)->∃c,X.env.cells.lookup x=some c) {x:Str} {c:Addr} (h:(iz scope X.env C).cells.lookup x=some c):
  (scope.names.lookup x=some .cell/\@LE.le Nat _ (C+1) c)\/(x∈fD scope/\X.env.cells.lookup x=some c):=by
 have h:(cellsFrom (C+1) scope.names (jx X.env.cells scope.names [])).lookup x=some c:=h
 rw[d7,List.lookup_append] at h
 cases e:(cellsFrom (C+1) scope.names []).lookup x with
 | some c'=>
  rw[e] at h
  have e2:c'=c:=by simpa using h
  subst e2
  obtain⟨h1,h2⟩:=lH _ _ (PySem.mem_of_lookup e)
  exact .inl ⟨B.cel _ h1 rfl,h2⟩
 | none=>
  rw[e] at h
  have h:(jx X.env.cells scope.names []).lookup x=some c:=by simpa using h
  obtain⟨h1,h2⟩:=uV _ _ (PySem.mem_of_lookup h)
  have hx:=uW h1
  obtain⟨c',hc'⟩:=has x (B.out x hx)
  rw[hc'] at h2
  have h2:c=c':=h2
  subst h2
  exact .inr ⟨hx,hc'⟩
theorem Tv (B:G7 X.env.scope scope ts X.N) {x:Str} {c:Addr} (hx:x∈fD scope) (hc:X.env.cells.lookup x=some c) (has:∀x,(X.env.kindOf x=some .cell\/X.env.kindOf x=some .free)->∃c,X.env.cells.lookup x=some c):(iz scope X.env C).cells.lookup x=some c:=by
 have hs:=IK X.env.cells scope.names (agW hx)
 obtain⟨c',e⟩:=Option.isSome_iff_exists.mp hs
 have hl:∃d,(iz scope X.env C).cells.lookup x=some d:=by
  show ∃d,(cellsFrom (C+1) scope.names (jx X.env.cells scope.names [])).lookup x=some d
  rw[d7,List.lookup_append,e]
  cases (cellsFrom (C+1) scope.names []).lookup x with
  |none=>exact⟨c',rfl⟩
  |some d=>exact⟨d,rfl⟩
 obtain⟨d,hd⟩:=hl
 rcases mH B has hd with⟨h1,_⟩ |⟨_,h2⟩
 ·rw[B.PL x hx] at h1;(injection h1 with aH;injection aH)
 ·rw[hc] at h2;(injection h2 with aH;subst aH);exact hd
theorem afe (B:G7 X.env.scope scope ts X.N) {x:Str} (hx:x∈fD scope):(iz scope X.env C).kindOf x=some .cell\/(iz scope X.env C).kindOf x=some .free:=by
 show (relabel scope X.env).names.lookup x=some .cell\/(relabel scope X.env).names.lookup x=some .free
 have e:(relabel scope X.env).names.lookup x=(scope.names.lookup x).map λ k=>if (k ==NameKind.free && X.env.scope.kind == .function && X.env.kindOf x ==some .cell) then .cell else k:=qy (scope:=scope)
 rw[e,B.PL x hx]
 simp only[Option.map_some]
 split
 ·exact .inl rfl
 ·exact .inr rfl
end
end Pu
namespace Pu
open PySem PySem.Spec L2
open PyProof.Rows hiding St
noncomputable def PN {α:Type}:R α->R α
 | .err _=> .bad
 | .ok a=> .ok a
 | .bad=> .bad
@[simp] theorem J1 {α:Type} (a:α):PN (R.ok a)= .ok a:=rfl
noncomputable def mq (k:D->R (Option D)):List D->R (List D)
 |[]=> .ok []
 |x::xs=>(PN (k x)).bind λ o=>(mq k xs).bind λ ds=> .ok (o.toList++ds)
theorem ac7 (k:D->R (Option D)) (x:D) (xs:List D):mq k (x::xs)=(PN (k x)).bind λ o=>(mq k xs).bind λ ds=> .ok (o.toList++ds):=rfl
noncomputable def qz (gt:D->aq->R aq) (ft:aq->R Bool) (fe:aq->R D) (ρ:aq) (x:D):R (Option D):=
 (gt x ρ).bind λ ρ1=>(ft ρ1).bind λ b=>if b=true then (fe ρ1).bind λ d=> .ok (some d) else .ok none
noncomputable def Ag:Option Ent->Option Ent
 |some (.val d)=>some (.val d)
 |_=>none
noncomputable def G8 (n:Nat) (caps:List Nat) (ρ:aq):aq:=List.replicate n none++caps.map λ k=>((ρ.map Ag)[k]?).join
noncomputable def cj (n:Nat) (caps:List Nat) (fi:aq->R (List D)) (gt:D->aq->R aq) (ft:aq->R Bool) (fe:aq->R D):aq->R D:=
 λ ρ=>(fi ρ).bind λ xs=>(mq (qz gt ft fe (G8 n caps ρ)) xs).bind (cap .lst)
noncomputable def zm (n:Nat) (gt:D->aq->R aq):Prop:=∀d ρ ρ',gt d ρ= .ok ρ'->∀i,n<=i->ρ'[i]?=ρ[i]?
noncomputable def G9 (n:Nat) (gt:List D->aq->R aq):Prop:=∀d ρ ρ',gt d ρ= .ok ρ'->∀i,n<=i->ρ'[i]?=ρ[i]?
theorem bC {n i:Nat} (h:i < n):zm n (aV i):=λ d ρ ρ' e j hj=>by
 (injection e with aH;subst aH)
 rw[List.getElem?_set_ne (by exact anD h hj)]
theorem jC {n:Nat}:G9 n nilG:=λ d ρ ρ' e j hj=>by
 cases d with
 |nil=>(injection e with aH;subst aH);rfl
 |cons _ _=>injection e
theorem cA {n:Nat} {t:D->aq->R aq} {u:List D->aq->R aq} (h1:zm n t) (h2:G9 n u):G9 n (bR t u):=λ d ρ ρ' e j hj=>by
 cases d with
 |nil=>injection e
 | cons d ds=>
  have e':(t d ρ).bind (λ ρ'=>u ds ρ')= .ok ρ':=e
  cases q:t d ρ with
  |ok ρ1=>rw[q] at e';rw[h2 ds ρ1 ρ' e' j hj,h1 d ρ ρ1 q j hj]
  |err c=>rw[q] at e';injection e'
  |bad=>rw[q] at e';injection e'
theorem jD {n m:Nat} {u:List D->aq->R aq} (h:G9 n u):zm n (eV (eX m u)):=λ d ρ ρ' e j hj=>by
 cases d with
 | tup ds=>
  have e':(if ds.length=m then u ds ρ else .bad)= .ok ρ':=e
  by_cases hl:ds.length=m
  ·rw[if_pos hl] at e';exact h ds ρ ρ' e' j hj
  ·rw[if_neg hl] at e';injection e'
 |_=>injection e
noncomputable def DTs (Y:Cx) (ifs:List Expr) (ft:aq->R Bool):Prop:=∀(pins:List (Addr×Obj)) (s:Shared) (σ:St) (H:Hp) (Q:Bool->Hp->Prop),Inv Y pins σ H s->tG Y rB ft σ H Q->
 wpAny (model Y.prog Y.w) Y.A (forIn ifs true λ c r=>if r=true then do let ok <-isTrue c Y.env (eval c Y.env);pure (ForInStep.yield ok) else pure (ForInStep.yield r)) (TP Y pins σ Q) Y.xe s
theorem cP {Y:Cx}:DTs Y [] (λ Z=> .ok true):=λ pins s σ H Q I h=>by
 obtain⟨ρ,O,j,h⟩:=h
 exact wpAny_tests_nil ⟨H,I,fin h rfl⟩
theorem Hf {Y:Cx} {c:Expr} {p:aq->R Bool} (hc:DT Y c p):DTs Y [c] p:=λ pins s σ H Q I h=>wpAny_tests_one (hc pins s σ H Q I h)
theorem ac8 {k:D->R (Option D)} {x:D} {xs:List D} {all:List D} (h:mq k (x::xs)= .ok all):∃o rest,k x= .ok o/\mq k xs= .ok rest/\all=o.toList++rest:=by
 have h:(PN (k x)).bind (λ o=>(mq k xs).bind λ ds=> .ok (o.toList++ds))= .ok all:=h
 cases e:k x with
 |bad=>rw[e] at h;injection h
 |err c=>rw[e] at h;injection h
 | ok o=>
  rw[e] at h
  cases e2:mq k xs with
  |bad=>rw[e2] at h;injection h
  |err c=>rw[e2] at h;injection h
  | ok rest=>
   rw[e2] at h
   (injection h with aH;subst aH)
   exact⟨o,rest,rfl,rfl,rfl⟩
theorem J2 {k:D->R (Option D)}:∀{xs:List D} {c:Str},mq k xs≠.err c
 |[],c=>λ h=>by injection h
 | x ::xs,c=>λ h=>by
  have h:(PN (k x)).bind (λ o=>(mq k xs).bind λ ds=> .ok (o.toList++ds))= .err c:=h
  cases e:k x with
  |bad=>rw[e] at h;injection h
  |err c=>rw[e] at h;injection h
  | ok o=>
   rw[e] at h
   cases e2:mq k xs with
   |bad=>rw[e2] at h;injection h
   |err c'=>exact J2 e2
   |ok rest=>rw[e2] at h;injection h
section
variable {X:Cx}
theorem aaP {o:Option Ent} {e:Ent} (h:Ag o=some e):o=some e/\e.ZQ=true:=by
 cases o with
 |none=>injection h
 | some e'=>
  cases e' with
  |val d=>(injection h with aH;subst aH);exact⟨rfl,rfl⟩
  |lst _=>injection h
  |HF _=>injection h
  |obj _=>injection h
theorem Ah {ρ:aq} {i:Nat} {e:Ent} (h:(ρ.map Ag)[i]?=some (some e)):ρ[i]?=some (some e)/\e.ZQ=true:=by
 rw[List.getElem?_map] at h
 cases q:ρ[i]? with
 |none=>rw[q] at h;injection h
 | some o=>
  rw[q] at h
  obtain⟨h1,h2⟩:=aaP (Option.some.inj h)
  rw[h1];exact⟨rfl,h2⟩
theorem In.vals {O:Addr->Prop} {H:Hp} {ρ:aq} {σ:St} (j:In X O H ρ σ):In X O H (ρ.map Ag) σ:=
 ⟨⟨λ i e h=>j.env.get i e (Ah h).1,λ i k e e' v hik hi hk=>j.env.sep i k e e' v hik (Ah hi).1 (Ah hk).1⟩,j.al,j.len,by rw[List.length_map];exact j.sZ⟩
theorem aaQ {N caps:List Str} {ks:List Nat} {n:Nat} {ρ:aq} (h:caps.map (λ x=>pL x N)=ks):pull N caps n (ρ.map Ag)=G8 n ks ρ:=by
 unfold pull G8
 rw[<-h,List.map_map]
 rfl
theorem agX {scope:Scope} {ts:List Str} {pins:List (Addr×Obj)} {σ:St} {H:Hp} {s:Shared} {fp:List Addr} (I:Inv X pins σ H s) (B:G7 X.env.scope scope ts X.N)
  (hf:∀b∈fp,FpOk X pins H b) (ho:∀b∈fp,b < s.heap.objs.size) {h4:Heap} {C:Nat} (hC:C=s.heap.objs.size+1)
  (e4:h4=pushCells ((s.heap.push {cls:= .type "list",dict:=none,data:= .seq ([]:List Value).toArray}).push {cls:= .type "dict",data:= .dict #[]}) scope.names):
  Inv (dB X scope ts C s H fp) [] (pull X.N (fD scope) ts.length σ) (upd H s.heap.objs.size (.lst [])) {s with heap:=h4}:=by
 have hD:H s.heap.objs.size=none:=I.hok.fresh (z0g _)
 have agK:∀b o,(s.heap.push {cls:= .type "list",dict:=none,data:= .seq ([]:List Value).toArray}).get? b=some o->h4.get? b=some o:=λ b o e=>by
  rw[e4];exact pushCells_keeps _ _ b o (Heap.get?_push_of_some _ e)
 have keep:∀b o,s.heap.get? b=some o->h4.get? b=some o:=λ b o e=>agK b o (Heap.get?_push_of_some _ e)
 have sz3:(s.heap.push {cls:= .type "list",dict:=none,data:= .seq ([]:List Value).toArray}).objs.size=s.heap.objs.size+1:=Heap.size_push ..
 have hns:h4.Ns C λ Z=>none:=by
  rw[e4,hC,<-sz3]
  exact (Heap.Ns.new _ (.type "dict")).keeps (pushCells_keeps _ _)
 have ok:=cellsFrom_ok scope.names ((s.heap.push {cls:= .type "list",dict:=none,data:= .seq ([]:List Value).toArray}).push {cls:= .type "dict",data:= .dict #[]}) (C+1) [] ⟨λ Z Z hm=>(nomatch hm),List.Pairwise.nil⟩ (by rw[Heap.size_push,sz3,hC];exact z0g _)
 rw[Heap.size_push,sz3,<-hC,<-e4] at ok
 have agY:∀x c,(iz scope X.env C).cells.lookup x=some c->scope.names.lookup x=some .cell->h4.IsCell c none:=λ x c h hk=>by
  have h:(cellsFrom (C+1) scope.names (jx X.env.cells scope.names [])).lookup x=some c:=h
  rw[d7,List.lookup_append] at h
  refine bc λ zQ=>?_
  cases e:(cellsFrom (C+1) scope.names []).lookup x with
  | some c'=>
   apply zQ;clear zQ
   rw[e] at h
   have e2:c'=c:=by simpa using h
   subst e2
   exact (ok.empty x c' (PySem.mem_of_lookup e)).1
  | none=>
   apply zQ;clear zQ
   rw[e] at h
   have h:(jx X.env.cells scope.names []).lookup x=some c:=by simpa using h
   have:=B.PL x (uW (uV _ _ (PySem.mem_of_lookup h)).1)
   rw[hk] at this;(injection this with aH;injection aH)
 have aaR:∀x (c:Nat),X.env.cells.lookup x=some c->c < s.heap.objs.size:=λ x c e=>by
  refine bc λ zQ=>?_
  obtain⟨v,q⟩:=I.cell x c e
  apply zQ;clear zQ
  exact q.lt
 have aiO:∀x c,(iz scope X.env C).cells.lookup x=some c->∃v,h4.IsCell c v:=λ x c h=>by
  refine bc λ zQ=>?_
  rcases mH B I.ok.has h with⟨h1,_⟩ |⟨_,h2⟩
  ·apply zQ;clear zQ
   exact⟨_,agY x c h h1⟩
  ·apply zQ;clear zQ
   refine bc λ zQ=>?_
   obtain⟨v,q⟩:=I.cell x c h2
   apply zQ;clear zQ
   exact⟨v,q.keeps keep⟩
 refine⟨⟨I.ok.mod,B.kind,I.ok.glob,I.ok.blt,by show @LE.le Nat _ s.heap.objs.size C;exact aii hC,?inj,?has,?cab,I.ok.hd,I.ok.frames,.inl rfl,?exf,I.bs,z0b I.ok.bsz I.sz,?noex,?exfs,I.stack,I.stkFree⟩,
  rfl,I.bare,Un.laid keep (z0g _) hD,⟨_,hns,?loc⟩,aiO,?free,?freeC,λ p hp=>absurd (show p∈([]:List (Addr×Obj)) from hp) (by simp),I.hok.laid keep (z0g _) ?new,?len⟩
 case inj=>
  intro x y c h1 h2
  have h1:(iz scope X.env C).cells.lookup x=some c:=h1
  have h2:(iz scope X.env C).cells.lookup y=some c:=h2
  rcases mH B I.ok.has h1 with⟨a1,a2⟩ |⟨a1,a2⟩ <;> rcases mH B I.ok.has h2 with⟨b1,b2⟩ |⟨b1,b2⟩
  ·-- both its own
   have look:∀z,(iz scope X.env C).cells.lookup z=some c->scope.names.lookup z=some .cell->(z,c)∈cellsFrom (C+1) scope.names []:=λ z h hk=>by
    have h:(cellsFrom (C+1) scope.names (jx X.env.cells scope.names [])).lookup z=some c:=h
    rw[d7,List.lookup_append] at h
    refine bc λ zQ=>?_
    cases e:(cellsFrom (C+1) scope.names []).lookup z with
    | some c'=>
     apply zQ;clear zQ
     rw[e] at h
     have e2:c'=c:=by simpa using h
     subst e2
     exact PySem.mem_of_lookup e
    | none=>
     apply zQ;clear zQ
     rw[e] at h
     have h:(jx X.env.cells scope.names []).lookup z=some c:=by simpa using h
     have:=B.PL z (uW (uV _ _ (PySem.mem_of_lookup h)).1)
     rw[hk] at this;(injection this with aH;injection aH)
   exact name_of_addr ok.apart (look x h1 a1) (look y h2 b1)
  ·have:=aaR y c b2;exact (aij a2 hC this).elim
  ·have:=aaR x c a2;exact (aij b2 hC this).elim
  ·exact I.ok.inj x y c a2 b2
 case has =>
  intro x hx
  have hx:(relabel scope X.env).names.lookup x=some .cell\/(relabel scope X.env).names.lookup x=some .free:=hx
  have hx:(scope.names.map λ (n,k)=>if (k ==NameKind.free && X.env.scope.kind == .function && X.env.kindOf n ==some .cell) then (n,NameKind.cell) else (n,k)).lookup x=some .cell\/(scope.names.map λ (n,k)=>if (k ==NameKind.free && X.env.scope.kind == .function && X.env.kindOf n ==some .cell) then (n,NameKind.cell) else (n,k)).lookup x=some .free:=hx
  rw[qy (scope:=scope)] at hx
  refine bc λ zQ=>?_
  cases e:scope.names.lookup x with
  |none=>rw[e] at hx;rcases hx with z |z <;> injection z
  | some k=>
   apply zQ;clear zQ
   rw[e] at hx
   by_cases hk:k= .free
   ·subst hk
    have hm:=uW (PySem.mem_of_lookup e)
    refine bc λ zQ=>?_
    obtain⟨c,hc⟩:=I.ok.has x (B.out x hm)
    apply zQ;clear zQ
    exact⟨c,Tv B hm hc I.ok.has⟩
   ·have hk':(k ==NameKind.free)=false:=by simpa using hk
    simp only[Option.map_some,hk',Bool.false_and,Bool.false_eq_true,if_false] at hx
    have hc:k= .cell:=by
     refine bc λ zQ=>?_
     rcases hx with z |z
     ·apply zQ;clear zQ
      exact Option.some.inj z
     ·apply zQ;clear zQ
      exact absurd (Option.some.inj z) hk
    subst hc
    have q:=PySem.W.cellsFrom_some scope.names (C+1) (jx X.env.cells scope.names []) (.inl e)
    exact Option.isSome_iff_exists.mp q
 case cab=>
  intro x c hfn h
  have h:(iz scope X.env C).cells.lookup x=some c:=h
  have hfn:scope.names.lookup x=some .cell:=of_decide_eq_true hfn
  refine bc λ zQ=>?_
  rcases mH B I.ok.has h with⟨_,a2⟩ |⟨a1,_⟩
  ·apply zQ;clear zQ
   show @LE.le Nat _ s.heap.objs.size c;exact aik a2 hC
  ·apply zQ;clear zQ
   rw[B.PL x a1] at hfn;(injection hfn with aH;injection aH)
 case exf=>
  intro b hb
  have hb:b∈fp:=hb
  have hl: @LT.lt Nat _ b s.heap.objs.size:=ho b hb
  refine⟨by show @Ne Nat b C;exact ail hl hC,λ x c h=>?_⟩
  refine bc λ zQ=>?_
  rcases mH B I.ok.has h with⟨_,a2⟩ |⟨_,a2⟩
  ·apply zQ;clear zQ
   show @Ne Nat c b;exact ain a2 hl hC
  ·apply zQ;clear zQ
   exact (hf b hb).2.2.2.2.1 x c a2
 case noex=>
  intro b o e hb
  have hb:b∈fp:=hb
  refine bc λ zQ=>?_
  rcases (hf b hb).2.2.2.1 with z |z
  ·apply zQ;clear zQ
   exact I.ok.noex b o e z
  ·apply zQ;clear zQ
   exact absurd (z0d (Heap.lt_size e) (z0b I.ok.bsz z)) (Nat.lt_irrefl _)
 case exfs=>
  intro b hb hz
  have hb:b∈fp:=hb
  have hz:b∈frs X.stack:=hz
  refine bc λ zQ=>?_
  rcases List.mem_cons.mp (I.stkSub b hz) with z |z
  ·apply zQ;clear zQ
   exact (hf b hb).2.1 z
  ·apply zQ;clear zQ
   exact (hf b hb).2.2.1 z
 case loc=>
  intro i x v h1 h2 h3
  have h1:(ts++fD scope)[i]?=some x:=h1
  refine bc λ zQ=>?_
  obtain⟨k,y,e1,e2,e3⟩:=uU h2
  apply zQ;clear zQ
  have hy:x=y:=by
   rw[e1,List.getElem?_append_right (by exact Nat.le_add_right _ _),show ts.length+k - ts.length=k by exact aif,e2] at h1
   exact (Option.some.inj h1).symm
  subst hy
  have hm:x∈fD scope:=List.mem_of_getElem? e2
  refine bc λ zQ=>?_
  obtain⟨m,_,hl⟩:=I.loc
  have vis:Vis X.env.scope x:=by
   refine bc λ zQ=>?_
   rcases B.out x hm with z |z
   ·apply zQ;clear zQ
    exact .inr (.inl z)
   ·apply zQ;clear zQ
    exact .inr (.inr z)
  obtain⟨u,ru,lk⟩:=hl (pL x X.N) x v (Ae (B.mem x hm)) e3 vis
  apply zQ;clear zQ
  refine⟨u,ru,.inr ⟨afe B hm,?_⟩⟩
  refine bc λ zQ=>?_
  rcases lk with⟨z,_⟩ |⟨_,c,hc,q⟩
  ·apply zQ;clear zQ
   have z:X.env.scope.names.lookup x=some .local:=z
   rcases B.out x hm with z' |z' <;> rw[z] at z' <;> (injection z' with aH;injection aH)
  ·apply zQ;clear zQ
   exact⟨c,Tv B hm hc I.ok.has,q.keeps keep⟩
 case free=>
  show upd H s.heap.objs.size (.lst []) C=none
  rw[upd_ne (show @Ne Nat C s.heap.objs.size by exact anE hC)]
  exact I.hok.fresh (show @LE.le Nat _ s.heap.objs.size C by exact aii hC)
 case freeC=>
  intro x c h
  refine bc λ zQ=>?_
  rcases mH B I.ok.has h with⟨_,a2⟩ |⟨_,a2⟩
  ·apply zQ;clear zQ
   rw[upd_ne (show @Ne Nat c s.heap.objs.size by exact anF a2 hC)]
   exact I.hok.fresh (show @LE.le Nat _ s.heap.objs.size c by exact aik a2 hC)
  ·apply zQ;clear zQ
   have:=aaR x c a2
   rw[upd_ne (show @Ne Nat c s.heap.objs.size by exact Nat.ne_of_lt this)]
   exact I.freeC x c a2
 case new=>
  exact⟨Nat.zero_le _,[],0,.nil,agK _ _ (Heap.get?_push_size _ rfl)⟩
 case len=>
  show (pull X.N (fD scope) ts.length σ).length=(ts++fD scope).length
  rw[Af,List.length_append]
theorem aiP {scope:Scope} {ts:List Str} {σ:St} {ρ:aq} {H:Hp} {s:Shared} {fp:List Addr} {O:Addr->Prop} {C:Addr} (B:G7 X.env.scope scope ts X.N) (j:In X O H ρ σ):In (dB X scope ts C s H fp) O H (pull X.N (fD scope) ts.length ρ) (pull X.N (fD scope) ts.length σ):=by
 refine⟨⟨λ i e h=>?_,λ i k e e' v hik hi hk oi ok si sk=>?_⟩,j.al,?_,?_⟩
 ·obtain⟨m,x,rfl,e1,e2⟩:=uU h
  obtain⟨v,e3,r⟩:=j.env.get _ e e2
  exact⟨v,by rw[Mw e1,e3];rfl,r⟩
 ·obtain⟨m,x,rfl,e1,e2⟩:=uU hi
  obtain⟨m',x',rfl,e1',e2'⟩:=uU hk
  have hx:x≠x':=λ z=>by
   subst z
   have nd:=(List.nodup_append.mp B.nd).2.1
   exact hik (by rw[nodup_ix nd e1 e1'])
  have hm:=B.mem x (List.mem_of_getElem? e1)
  have hm':=B.mem x' (List.mem_of_getElem? e1')
  have hne:pL x X.N≠pL x' X.N:=λ z=>by
   have q1:=Ae hm
   have q2:=Ae hm'
   rw[z,q2] at q1
   exact hx (Option.some.inj q1).symm
  rw[Mw e1] at si
  rw[Mw e1'] at sk
  exact j.env.sep _ _ e e' v hne e2 e2' oi ok (join_some (Option.some.inj si)) (join_some (Option.some.inj sk))
 ·show (pull X.N (fD scope) ts.length σ).length=(ts++fD scope).length
  rw[Af,List.length_append]
 ·show (pull X.N (fD scope) ts.length ρ).length=(ts++fD scope).length
  rw[Af,List.length_append]
end
end Pu
namespace Pu
open PySem PySem.Spec L2
open PyProof.Rows hiding St
theorem jO:1000000 < sizeLine:=by rw[sizeLine_eq];decide
section
variable {X:Cx}
theorem In.back {Y:Cx} {O:Addr->Prop} {H:Hp} {ρ ρ1:aq} {σ:St} {n:Nat} (j:In Y O H ρ1 σ) (h0:∀i,i < n->ρ[i]?=some none) (h1:∀i,n<=i->ρ1[i]?=ρ[i]?) (hl:ρ.length=Y.N.length):In Y O H ρ σ:=by
 have sub:∀(i:Nat) e,ρ[i]?=some (some e)->ρ1[i]?=some (some e):=λ i e h=>by
  by_cases hi:i < n
  ·rw[h0 i hi] at h;(injection h with aH;injection aH)
  ·rw[h1 i (by exact Nat.not_lt.mp hi)];exact h
 exact⟨⟨λ i e h=>j.env.get i e (sub i e h),λ i k e e' v hik hi hk=>j.env.sep i k e e' v hik (sub i e hi) (sub k e' hk)⟩,j.al,j.len,hl⟩
theorem ac9 {α:Type} {N caps:List Str} {n:Nat} {l:List (Option α)} {i:Nat} (h:i < n):(pull N caps n l)[i]?=some none:=by
 unfold pull
 rw[List.getElem?_append_left (by simpa using h),List.getElem?_replicate,if_pos h]
theorem In.go {Y:Cx} {O O':Addr->Prop} {H H':Hp} {ρ:aq} {σ:St} (j:In Y O H ρ σ) (hv:∀(i:Nat) e,ρ[i]?=some (some e)->e.ZQ=true) (r:gO Y.K O H O' H') (al:∀a,O' a->∃o,H' a=some o):In Y O' H' ρ σ:=by
 refine⟨⟨λ i e h=>?_,λ i k e e' v Z hi Z oi=>?_⟩,al,j.len,j.sZ⟩
 ·obtain⟨v,h1,h2⟩:=j.env.get i e h
  refine⟨v,h1,?_⟩
  cases e with
  |val d=>exact Rep.go r h2
  |lst _=>cases hv i _ h
  |HF _=>cases hv i _ h
  |obj _=>cases hv i _ h
 ·rw[agV (hv i e hi)] at oi;injection oi
theorem PX {N caps:List Str} {n:Nat} {ρ:aq}:∀(i:Nat) e,(pull N caps n (ρ.map Ag))[i]?=some (some e)->e.ZQ=true:=λ i e h=>by
 obtain⟨_,_,_,_,q⟩:=uU h
 exact (Ah q).2
end
end Pu
namespace Pu
open PySem PySem.Spec L2
open PyProof.Rows hiding St
set_option genInjectivity true in
inductive So where
 |bad |nx (ρ:aq) |rt (d:D) |bk (ρ:aq) |ct (ρ:aq) |ex (c:Str) (ρ:aq)
structure At (X:Cx) (H0:Hp) (O0 O:Addr->Prop) (H:Hp) (ρ:aq) (σ:St):Prop where
 same:Same H0 H
 gY:gO X.K O0 H0 O H
 sub:∀a,O0 a->O a
 inn:In X O H ρ σ
 mine:∀(i:Nat) e a,ρ[i]?=some (some e)->e.own=true->σ[i]?=some (some (.ref a))->H0 a=none/\¬O0 a
noncomputable def sI (X:Cx) (H0:Hp) (O0 O:Addr->Prop) (H:Hp) (E:Ends) (o:So):Prop:=match o with
 | .nx ρ'=>∀σ' H' O',At X H0 O0 O' H' ρ' σ'->gO X.K O H O' H'->E.nx σ' H'
 | .bk ρ'=>∀σ' H' O',At X H0 O0 O' H' ρ' σ'->gO X.K O H O' H'->E.bk σ' H'
 | .ct ρ'=>∀σ' H' O',At X H0 O0 O' H' ρ' σ'->gO X.K O H O' H'->E.ct σ' H'
 | .rt d=>∀v H',Same H0 H'->Rep X.K O0 H' d v->E.rt v H'
 | .ex c ρ'=>∀σ' H' O',At X H0 O0 O' H' ρ' σ'->PJ X c σ' H'
 | .bad=>False
theorem sI.go {X:Cx} {H0 H H1:Hp} {O0 O O1:Addr->Prop} {E:Ends} {o:So} (h:sI X H0 O0 O H E o) (r:gO X.K O H O1 H1):sI X H0 O0 O1 H1 E o:=by
 cases o with
 |bad=>exact h
 |rt d=>exact h
 |bk ρ2=>exact λ σ2 H2 O2 j2 r2=>h σ2 H2 O2 j2 (r.trans r2)
 |ct ρ2=>exact λ σ2 H2 O2 j2 r2=>h σ2 H2 O2 j2 (r.trans r2)
 |nx ρ2=>exact λ σ2 H2 O2 j2 r2=>h σ2 H2 O2 j2 (r.trans r2)
 |ex c ρ2=>exact h
noncomputable def tS (X:Cx) (g:aq->So):TS:=λ E σ H=>∃H0 O0 O ρ,At X H0 O0 O H ρ σ/\sI X H0 O0 O H E (g ρ)
noncomputable def DS (X:Cx) (st:Stmt) (g:aq->So):Prop:=PS X st (tS X g)
noncomputable def cW (X:Cx) (st:List Stmt) (g:aq->So):Prop:=PSs X st (tS X g)
theorem PS.imp {X:Cx} {e:Stmt} {t t':TS} (h:PS X e t) (w:∀σ H Q,t' Q σ H->t Q σ H):PS X e t':=λ pins s σ H Q I q=>h pins s σ H Q I (w σ H Q q)
theorem PSs.imp {X:Cx} {e:List Stmt} {t t':TS} (h:PSs X e t) (w:∀σ H Q,t' Q σ H->t Q σ H):PSs X e t':=λ pins s σ H Q I q=>h pins s σ H Q I (w σ H Q q)
section
variable {X:Cx} {H0 H H1:Hp} {O0 O:Addr->Prop} {ρ:aq} {σ:St}
theorem At.grow (j:At X H0 O0 O H ρ σ) (s:Same H H1):At X H0 O0 O H1 ρ σ:=⟨j.same.trans s,j.gY.trans (Same.gY s),j.sub,j.inn.same s,j.mine⟩
theorem At.set (j:At X H0 O0 O H ρ σ) {i:Nat} (hi:i < X.N.length) {d:D} {v:V} (r:Rep X.K O H d v):At X H0 O0 O H (ρ.set i (some (.val d))) (σ.set i (some v)):=by
 refine⟨j.same,j.gY,j.sub,j.inn.set hi r,λ k e a h ho hs=>?_⟩
 have h1:i < ρ.length:=by rw[j.inn.sZ];exact hi
 by_cases hk:k=i
 ·subst hk
  rw[List.getElem?_set_self h1] at h
  (injection h with aH;injection aH with cV;subst cV);injection ho
 ·rw[List.getElem?_set_ne (Ne.symm hk)] at h hs
  exact j.mine k e a h ho hs
noncomputable def aaS:Option Ent->Option Ent
 |some (.lst ds)=>some (.val (.lst ds))
 |o=>o
noncomputable def cX (ρ:aq):aq:=ρ.map aaS
noncomputable def ZV (ρ:aq) (σ:St) (O:Addr->Prop):Addr->Prop:=λ a=>O a/\∀(i:Nat) ds,ρ[i]?=some (some (.lst ds))->σ[i]?≠some (some (.ref a))
theorem Tw {i:Nat} {e:Ent} (h:(cX ρ)[i]?=some (some e)):(ρ[i]?=some (some e)/\∀ds,e≠.lst ds)\/∃ds,ρ[i]?=some (some (.lst ds))/\e= .val (.lst ds):=by
 unfold cX at h
 rw[List.getElem?_map] at h
 cases q:ρ[i]? with
 |none=>rw[q] at h;injection h
 | some o=>
  rw[q] at h
  have h:aaS o=some e:=Option.some.inj h
  cases o with
  |none=>injection h
  | some e'=>
   cases e' with
   |val d=>(injection h with aH;subst aH);exact .inl ⟨rfl,λ Z z=>by injection z⟩
   |lst ds=>(injection h with aH;subst aH);exact .inr ⟨ds,rfl,rfl⟩
   |HF kvs=>(injection h with aH;subst aH);exact .inl ⟨rfl,λ Z z=>by injection z⟩
   |obj t=>(injection h with aH;subst aH);exact .inl ⟨rfl,λ Z z=>by injection z⟩
theorem In.cX (j:In X O H ρ σ):In X (ZV ρ σ O) H (Pu.cX ρ) σ:=by
 refine⟨⟨λ i e h=>?_,λ i k e e' v hik hi hk oi ok si sk=>?_⟩,λ a z=>j.al a z.1,j.len,by unfold Pu.cX;rw[List.length_map];exact j.sZ⟩
 ·rcases Tw h with⟨h1,h2⟩ |⟨ds,h1,rfl⟩
  ·obtain⟨v,h3,h4⟩:=j.env.get i e h1
   refine⟨v,h3,?_⟩
   cases e with
   |val d=>exact Rep.fewer (λ a z=>z.1) h4
   |lst ds=>exact absurd rfl (h2 ds)
   |obj t=>exact h4
   | HF kvs=>
    obtain⟨a,ys,e1,o1,e2,k1,r1⟩:=h4
    refine⟨a,ys,e1,⟨o1,λ k ds hk hs=>?_⟩,e2,k1,r1.fewer λ a z=>z.1⟩
    by_cases hik:i=k
    ·subst hik;rw[h1] at hk;(injection hk with aH;injection aH with cV;injection cV)
    ·exact j.env.sep i k _ _ v hik h1 hk rfl rfl h3 (by rw[e1];exact hs)
  ·obtain⟨v,h3,a,xs,e1,o1,e2,r1⟩:=j.env.get i _ h1
   exact⟨v,h3,by rw[e1];exact uG (SqL.of e2) (λ z=>z.2 i ds h1 (by rw[<-e1];exact h3)) (r1.fewer λ a z=>z.1)⟩
 ·have un:∀{m:Nat} {e:Ent},(Pu.cX ρ)[m]?=some (some e)->e.own=true->ρ[m]?=some (some e):=λ {m e} h ho=>by
   rcases Tw h with⟨h1,_⟩ |⟨ds,_,rfl⟩
   ·exact h1
   ·injection ho
  exact j.env.sep i k e e' v hik (un hi oi) (un hk ok) oi ok si sk
theorem At.aoh (j:At X H0 O0 O H ρ σ):∀a,O0 a->ZV ρ σ O a:=λ a z=>⟨j.sub a z,λ i ds h hs=>(j.mine i _ a h rfl hs).2 z⟩
end
section
variable {X:Cx} {st:Stmt} {rest:List Stmt} {g k:aq->So} {f:aq->R D} {p:aq->R Bool} {e:Expr} {pos:Pos}
noncomputable def bA (g k:aq->So):aq->So:=λ ρ=>match g ρ with
 | .nx ρ'=>k ρ'
 |o=>o
theorem dj:cW X [] .nx:=PSs.imp pss_nil λ σ H E h=>by
 obtain⟨H0,O0,O,ρ,j,h⟩:=h
 exact h σ H O j .refl
theorem aX (h:DS X st g):cW X [st] g:=pss_one h
theorem aU (h1:DS X st g) (h2:cW X rest k):cW X (st::rest) (bA g k):=by
 refine PSs.imp (pss_cons h1 h2) λ σ H E h=>?_
 obtain⟨H0,O0,O,ρ,j,h⟩:=h
 unfold bA at h
 refine⟨H0,O0,O,ρ,j,?_⟩
 cases e1:g ρ with
 |bad=>rw[e1] at h;exact h
 |rt d=>rw[e1] at h;exact h
 |bk ρ'=>rw[e1] at h;exact h
 |ct ρ'=>rw[e1] at h;exact h
 |ex c ρ'=>rw[e1] at h;exact h
 | nx ρ'=>
  rw[e1] at h
  have h:sI X H0 O0 O H E (k ρ'):=h
  exact λ σ' H' O' j' r'=>⟨H0,O0,O',ρ',j',h.go r'⟩
noncomputable def nP (r:R D) (ρ:aq) (k:D->So):So:=match r with
 | .ok d=>k d
 | .err c=> .ex c ρ
 | .bad=> .bad
noncomputable def retS (f:aq->R D):aq->So:=λ ρ=>nP (f (cX ρ)) ρ .rt
theorem bM (he:DE X e f):DS X (.Return (some e) pos) (retS f):=by
 refine PS.imp (ps_ret he) λ σ H E h=>?_
 obtain⟨H0,O0,O,ρ,j,h⟩:=h
 refine⟨cX ρ,ZV ρ σ O,j.inn.cX,?_⟩
 unfold retS nP at h
 cases e1:f (cX ρ) with
 |bad=>rw[e1] at h;exact h
 |err c=>rw[e1] at h;exact h σ H O j
 |ok d=>rw[e1] at h;exact λ v H' s r=>h v H' (j.same.trans s) (Rep.fewer j.aoh r)
noncomputable def Ai (f:aq->R D):aq->So:=λ ρ=>nP (f (cX ρ)) ρ λ Z=> .nx ρ
theorem Mx (he:DE X e f) (hs:autoParam (swapsWith e none pos.line X.env=pure false) bB._auto_1):DS X (.Expr e pos) (Ai f):=by
 refine PS.imp (ps_expr he hs) λ σ H E h=>?_
 obtain⟨H0,O0,O,ρ,j,h⟩:=h
 refine⟨cX ρ,ZV ρ σ O,j.inn.cX,?_⟩
 unfold Ai nP at h
 cases e1:f (cX ρ) with
 |bad=>rw[e1] at h;exact h
 |err c=>rw[e1] at h;exact h σ H O j
 |ok d=>rw[e1] at h;exact λ v H' s r=>h σ H' O (j.grow s) (Same.gY s)
noncomputable def bV (f:aq->R D) (gt:D->aq->R aq):aq->So:=λ ρ=>nP (f ρ) ρ λ d=>match gt d ρ with
 | .ok ρ'=> .nx ρ'
 |_=> .bad
theorem cg (i:Nat) {x:Str} {pos':Pos} (hN:X.N.Nodup) (he:DE X e f) (hi:autoParam (X.N[i]?=some x) bB._auto_1) (hx:autoParam (Loc X.env.scope x) ug._auto_1) (hs:autoParam (swapsWith e (some (.Name x pos')) pos.line X.env=pure false) bB._auto_1)
  (hf:autoParam (X.fn x=true\/X.env.scope.names.lookup x=some .local) uh._auto_1):DS X (.Assign [.Name x pos'] e pos) (bV f (aV i)):=by
 refine PS.imp (ps_set hN hi hx he hs hf) λ σ H E h=>?_
 obtain⟨H0,O0,O,ρ,j,h⟩:=h
 refine⟨ρ,O,j.inn,?_⟩
 unfold bV nP at h
 cases e1:f ρ with
 |bad=>rw[e1] at h;exact h
 |err c=>rw[e1] at h;exact h σ H O j
 |ok d=>rw[e1] at h;exact λ v H' s r=>h _ H' O ((j.grow s).set (List.getElem?_eq_some_iff.mp hi).1 r) (Same.gY s)
theorem Mz (i k:Nat) {x y:Str} {px py pt:Pos} {kt} (hc:X.calm=true) (hN:X.N.Nodup) (he:DE X e f) (hi:autoParam (X.N[i]?=some x) bB._auto_1) (hk:autoParam (X.N[k]?=some y) bB._auto_1)
  (hx:autoParam (Loc X.env.scope x) ug._auto_1) (hy:autoParam (Loc X.env.scope y) ug._auto_1)
  (hfx:autoParam (X.fn x=true\/X.env.scope.names.lookup x=some .local) uh._auto_1) (Tz:autoParam (X.fn y=true\/X.env.scope.names.lookup y=some .local) uh._auto_1)
  (hs:autoParam (swapsWithSole [.Tuple [.Name x px,.Name y py] kt pt] e pos.line X.env=pure false) bB._auto_1) (hw:autoParam (swappedStores [.Tuple [.Name x px,.Name y py] kt pt] e X.env=pure none) bB._auto_1):
  DS X (.Assign [.Tuple [.Name x px,.Name y py] kt pt] e pos) (bV f (eV (eX 2 (bR (aV i) (bR (aV k) nilG))))):=by
 refine PS.imp (ps_asg he (pg_tup hc (pgs_cons (pg_name hN hi hx hfx) (pgs_cons (pg_name hN hk hy Tz) pgs_nil))) hs hw) λ σ H E h=>?_
 refine bc λ zQ=>?_
 obtain⟨H0,O0,O,ρ,j,h⟩:=h
 apply zQ;clear zQ
 refine⟨ρ,O,j.inn,?_⟩
 unfold bV nP at h
 cases e1:f ρ with
 |bad=>rw[e1] at h;exact h
 |err c=>rw[e1] at h;exact h σ H O j
 | ok d=>
  rw[e1] at h
  intro v H' s r
  refine bc λ zQ=>?_
  cases d with
  | tup ds=>
   apply zQ;clear zQ
   match ds,h,r with
   |[],h,_=>exact h.elim
   |[_],h,_=>exact h.elim
   |_::_::_::_,h,_=>exact (show False by simpa[eV,eX,sI] using h).elim
   | [d1,d2],h,r=>
    refine bc λ zQ=>?_
    obtain⟨a,xs,rfl,hq,rs⟩:=r.tup
    obtain⟨v1,v2,rfl,r1,r2⟩:=rs.two
    apply zQ;clear zQ
    refine⟨a,[v1,v2],rfl,hq,rfl,v1,[v2],rfl,v2,[],rfl,rfl,?_⟩
    exact h _ H' O (((j.grow s).set (List.getElem?_eq_some_iff.mp hi).1 r1).set (List.getElem?_eq_some_iff.mp hk).1 r2) (Same.gY s)
  |_=>exact h.elim
noncomputable def gj (p:aq->R Bool) (g k:aq->So):aq->So:=λ ρ=>match p (cX ρ) with
 | .ok true=>g ρ
 | .ok false=>k ρ
 | .err c=> .ex c ρ
 | .bad=> .bad
theorem ZW {g:aq->So} {E:Ends} {H0 H H1:Hp} {O0 O:Addr->Prop} {ρ:aq} {σ:St} (j:At X H0 O0 O H ρ σ) (s:Same H H1) (h:sI X H0 O0 O H E (g ρ)):tS X g E σ H1:=
 ⟨H0,O0,O,ρ,j.grow s,h.go (Same.gY s)⟩
theorem fZ {c:Expr} {a b:List Stmt} (hc:DT X c p) (ha:cW X a g) (hb:cW X b k):DS X (.If c a b pos) (gj p g k):=by
 refine PS.imp (ps_if hc ha hb) λ σ H E h=>?_
 obtain⟨H0,O0,O,ρ,j,h⟩:=h
 refine⟨cX ρ,ZV ρ σ O,j.inn.cX,?_⟩
 unfold gj at h
 cases e1:p (cX ρ) with
 |bad=>rw[e1] at h;exact h
 |err c=>rw[e1] at h;exact h σ H O j
 | ok t=>
  rw[e1] at h
  intro b' H' s e
  subst e
  cases t with
  |true=>rw[if_pos rfl];exact ZW j s h
  |false=>rw[if_neg Bool.false_ne_true];exact ZW j s h
theorem IV:DS X st (λ Z=> .bad):=λ pins s σ H E I h=>by
 obtain⟨_,_,_,_,_,h⟩:=h
 exact h.elim
noncomputable def forL (gt:D->aq->R aq) (b:aq->So):List D->aq->So
 |[],ρ=> .nx ρ
 | x ::xs,ρ=>match gt x ρ with
  | .ok ρ1=>match b ρ1 with
   | .nx ρ2=>forL gt b xs ρ2
   | .ct ρ2=>forL gt b xs ρ2
   | .bk ρ2=> .nx ρ2
   |o=>o
  |_=> .bad
theorem Dm (gt:D->aq->R aq) (b:aq->So) (ρ:aq):forL gt b [] ρ= .nx ρ:=rfl
theorem aiQ (gt:D->aq->R aq) (b:aq->So) (x:D) (xs:List D) (ρ:aq):forL gt b (x::xs) ρ=(match gt x ρ with
  | .ok ρ1=>match b ρ1 with
   | .nx ρ2=>forL gt b xs ρ2
   | .ct ρ2=>forL gt b xs ρ2
   | .bk ρ2=> .nx ρ2
   |o=>o
  |_=> .bad):=rfl
noncomputable def pN (fi:aq->R (List D)) (gt:D->aq->R aq) (b:aq->So):aq->So:=λ ρ=>match fi ρ with
 | .ok xs=>forL gt b xs ρ
 | .err c=> .ex c ρ
 | .bad=> .bad
inductive aiR (X:Cx) (gt:D->aq->R aq) (v:V) (σ:St) (H:Hp) (Q:St->Hp->Prop):Prop
 |mk (H0:Hp) (O0 O:Addr->Prop) (ρ:aq) (d:D) (ρ':aq) (j:At X H0 O0 O H ρ σ) (r:Rep X.K O H d v) (e:gt d ρ= .ok ρ') (q:∀σ',At X H0 O0 O H ρ' σ'->Q σ' H):aiR X gt v σ H Q
noncomputable def DGA (X:Cx) (tg:Expr) (gt:D->aq->R aq):Prop:=PG X tg λ v σ H Q=>aiR X gt v σ H Q
theorem qC (i:Nat) {x:Str} (hN:X.N.Nodup) (hi:autoParam (X.N[i]?=some x) bB._auto_1) (hx:autoParam (Loc X.env.scope x) ug._auto_1) (hf:autoParam (X.fn x=true\/X.env.scope.names.lookup x=some .local) uh._auto_1):DGA X (.Name x pos) (aV i):=by
 intro pins s σ H v u Q I r h
 obtain⟨H0,O0,O,ρ,d,ρ',j,rd,e,q⟩:=h
 (injection e with aH;subst aH)
 exact pg_name hN hi hx hf pins s σ H v u Q I r (q _ (j.set (List.getElem?_eq_some_iff.mp hi).1 rd))
theorem Hg (i k:Nat) {x y:Str} {px py:Pos} {kt} (hc:X.calm=true) (hN:X.N.Nodup) (hi:autoParam (X.N[i]?=some x) bB._auto_1) (hk:autoParam (X.N[k]?=some y) bB._auto_1)
  (hx:autoParam (Loc X.env.scope x) ug._auto_1) (hy:autoParam (Loc X.env.scope y) ug._auto_1)
  (hfx:autoParam (X.fn x=true\/X.env.scope.names.lookup x=some .local) uh._auto_1) (Tz:autoParam (X.fn y=true\/X.env.scope.names.lookup y=some .local) uh._auto_1):
  DGA X (.Tuple [.Name x px,.Name y py] kt pos) (eV (eX 2 (bR (aV i) (bR (aV k) nilG)))):=by
 intro pins s σ H v u Q I r h
 refine bc λ zQ=>?_
 obtain⟨H0,O0,O,ρ,d,ρ',j,rd,e,q⟩:=h
 apply zQ;clear zQ
 refine bc λ zQ=>?_
 cases d with
 | tup ds=>
  apply zQ;clear zQ
  match ds,e,rd with
  |[],e,_=>injection e
  |[_],e,_=>injection e
  |_::_::_::_,e,_=>simp[eV,eX] at e
  | [d1,d2],e,rd=>
   refine bc λ zQ=>?_
   obtain⟨a,xs,rfl,hq,rs⟩:=rd.tup
   obtain⟨v1,v2,rfl,r1,r2⟩:=rs.two
   apply zQ;clear zQ
   (injection e with aH;subst aH)
   refine pg_tup hc (pgs_cons (pg_name hN hi hx hfx) (pgs_cons (pg_name hN hk hy Tz) pgs_nil)) rfl rfl pins s σ H _ u Q I r ⟨a,[v1,v2],rfl,hq,rfl,v1,[v2],rfl,v2,[],rfl,rfl,?_⟩
   exact q _ ((j.set (List.getElem?_eq_some_iff.mp hi).1 r1).set (List.getElem?_eq_some_iff.mp hk).1 r2)
 |_=>injection e
theorem nU {tg iter:Expr} {body:List Stmt} {fi:aq->R (List D)} {gt:D->aq->R aq} {b:aq->So} (hp:PassesOwn (model X.prog X.w) X.A X.env X.xe) (hc:X.calm=true) (hi:DI X tg iter fi) (hg:DGA X tg gt) (hb:cW X body b)
  (hs:autoParam (∀x,foldedSetIterable iter X.env x=pure x) ZL._auto_1):DS X (.For tg iter body [] pos) (pN fi gt b):=by
 refine PS.imp (ps_for hp hc hi hg hb hs) λ σ H E h=>?_
 obtain⟨H0,O0,O,ρ,j,h⟩:=h
 refine⟨ρ,O,j.inn,?_⟩
 unfold pN at h
 cases e1:fi ρ with
 |bad=>rw[e1] at h;exact h
 |err c=>rw[e1] at h;exact h σ H O j
 | ok xs =>
  rw[e1] at h
  have h:sI X H0 O0 O H E (forL gt b xs ρ):=h
  intro J H1 s1 yr
  have j1:=j.grow s1
  have q1:gO X.K O H O H1:=Same.gY s1
  refine⟨λ i m σ' H'=>∃O' ρ',At X H0 O0 O' H' ρ' σ'/\gO X.K O H1 O' H'/\i<=xs.length/\m=xs.length - i/\forL gt b (xs.drop i) ρ'=forL gt b xs ρ,⟨_,O,ρ,j1,.refl,Nat.zero_le _,rfl,by simp⟩,?_⟩
  rintro i m σ' H' ⟨O',ρ',j',r',hil,rfl,hf⟩
  have yat:=yr O' H' r' i
  by_cases hlt:i < xs.length
  ·have ed:xs.drop i=xs[i]::xs.drop (i+1):=List.drop_eq_getElem_cons hlt
   obtain⟨jgo,jy⟩:=yat.1 xs[i] (by simp[hlt])
   refine .inr ⟨jgo,λ σ2 H2=>∃O2 ρ2,At X H0 O0 O2 H2 ρ2 σ2/\gO X.K O H1 O2 H2/\forL gt b (xs.drop (i+1)) ρ2=forL gt b xs ρ,?_,λ x H2 y=>?_⟩
   ·rintro σ2 H2 ⟨O2,ρ2,j2,r2,hf2⟩
    exact⟨xs.length - (i+1),by exact anG hlt,O2,ρ2,j2,r2,by assumption,rfl,hf2⟩
   ·obtain⟨sm,rep⟩:=jy x H2 y
    rw[ed] at hf
    have hf:(match gt xs[i] ρ' with
     | .ok ρ1=>match b ρ1 with
      | .nx ρ2=>forL gt b (xs.drop (i+1)) ρ2
      | .ct ρ2=>forL gt b (xs.drop (i+1)) ρ2
      | .bk ρ2=> .nx ρ2
      |o=>o
     |_=> .bad)=forL gt b xs ρ:=hf
    cases e2:gt xs[i] ρ' with
    |bad=>rw[e2] at hf;rw[<-hf] at h;exact h.elim
    |err c=>rw[e2] at hf;rw[<-hf] at h;exact h.elim
    | ok ρ1=>
     rw[e2] at hf
     refine⟨H0,O0,O',ρ',xs[i],ρ1,j'.grow sm,rep,e2,λ σ3 j3=>?_⟩
     refine⟨H0,O0,O',ρ1,j3,?_⟩
     have r3:gO X.K O H1 O' H2:=r'.trans (Same.gY sm)
     have hf:(match b ρ1 with
      | .nx ρ2=>forL gt b (xs.drop (i+1)) ρ2
      | .ct ρ2=>forL gt b (xs.drop (i+1)) ρ2
      | .bk ρ2=> .nx ρ2
      |o=>o)=forL gt b xs ρ:=hf
     cases e3:b ρ1 with
     |bad=>rw[e3] at hf;rw[<-hf] at h;exact h
     |rt d=>rw[e3] at hf;rw[<-hf] at h;exact h
     |ex c ρ2=>rw[e3] at hf;rw[<-hf] at h;exact h
     |bk ρ2=>rw[e3] at hf;rw[<-hf] at h;exact λ σ4 H4 O4 j4 r4=>h σ4 H4 O4 j4 (q1.trans (r3.trans r4))
     |nx ρ2=>rw[e3] at hf;exact λ σ4 H4 O4 j4 r4=>⟨O4,ρ2,j4,r3.trans r4,hf⟩
     |ct ρ2=>rw[e3] at hf;exact λ σ4 H4 O4 j4 r4=>⟨O4,ρ2,j4,r3.trans r4,hf⟩
  ·have ei:i=xs.length:=by exact ae5 hil hlt
   subst ei
   have hf:forL gt b (xs.drop xs.length) ρ'=forL gt b xs ρ:=hf
   rw[List.drop_length] at hf
   rw[<-hf] at h
   exact .inl ⟨yat.2 (z0g _),h σ' H' O' j' (q1.trans r')⟩
noncomputable def jk (p:aq->R Bool) (b:aq->So):Nat->aq->So
 |0,_=> .bad
 | n +1,ρ=>match p (cX ρ) with
  | .ok true=>match b ρ with
   | .nx ρ'=>jk p b n ρ'
   | .ct ρ'=>jk p b n ρ'
   | .bk ρ'=> .nx ρ'
   |o=>o
  | .ok false=> .nx ρ
  | .err c=> .ex c ρ
  | .bad=> .bad
theorem Td (p:aq->R Bool) (b:aq->So) (n:Nat) (ρ:aq):jk p b (n+1) ρ=(match p (cX ρ) with
  | .ok true=>match b ρ with
   | .nx ρ'=>jk p b n ρ'
   | .ct ρ'=>jk p b n ρ'
   | .bk ρ'=> .nx ρ'
   |o=>o
  | .ok false=> .nx ρ
  | .err c=> .ex c ρ
  | .bad=> .bad):=rfl
theorem IW (n:Nat) {c:Expr} {body:List Stmt} {b:aq->So} (hp:PassesOwn (model X.prog X.w) X.A X.env X.xe) (hc:DT X c p) (hb:cW X body b):DS X (.While c body [] pos) (jk p b n):=by
 refine PS.imp (ps_while hp hc hb) λ σ H E h=>?_
 obtain⟨H0,O0,O,ρ,j,h⟩:=h
 have h:sI X H0 O0 O H E (jk p b n ρ):=h
 refine⟨λ m σ' H'=>∃O' ρ',At X H0 O0 O' H' ρ' σ'/\gO X.K O H O' H'/\jk p b m ρ'=jk p b n ρ,⟨n,O,ρ,j,.refl,rfl⟩,?_⟩
 rintro m σ' H' ⟨O',ρ',j',r',hf⟩
 refine⟨cX ρ',ZV ρ' σ' O',j'.inn.cX,?_⟩
 cases m with
 |zero=>rw[<-hf] at h;exact h.elim
 | succ m =>
  have hf:(match p (cX ρ') with
   | .ok true=>match b ρ' with
    | .nx ρ'=>jk p b m ρ'
    | .ct ρ'=>jk p b m ρ'
    | .bk ρ'=> .nx ρ'
    |o=>o
   | .ok false=> .nx ρ'
   | .err c=> .ex c ρ'
   | .bad=> .bad)=jk p b n ρ:=hf
  cases e1:p (cX ρ') with
  |bad=>rw[e1] at hf;rw[<-hf] at h;exact h
  |err c=>rw[e1] at hf;rw[<-hf] at h;exact h σ' H' O' j'
  | ok t =>
   rw[e1] at hf
   intro t' H1 s1 e
   subst e
   have j1:=j'.grow s1
   have r1:gO X.K O H O' H1:=r'.trans (Same.gY s1)
   cases t with
   | false=>
    rw[if_neg Bool.false_ne_true]
    rw[<-hf] at h
    exact h σ' H1 O' j1 r1
   | true=>
    rw[if_pos rfl]
    refine⟨λ σ2 H2=>∃O2 ρ2,At X H0 O0 O2 H2 ρ2 σ2/\gO X.K O H O2 H2/\jk p b m ρ2=jk p b n ρ,?_,H0,O0,O',ρ',j1,?_⟩
    ·rintro σ2 H2 ⟨O2,ρ2,j2,r2,hf2⟩
     exact⟨m,by exact z0g _,O2,ρ2,j2,r2,hf2⟩
    ·have hf:(match b ρ' with
      | .nx ρ'=>jk p b m ρ'
      | .ct ρ'=>jk p b m ρ'
      | .bk ρ'=> .nx ρ'
      |o=>o)=jk p b n ρ:=hf
     cases e3:b ρ' with
     |bad=>rw[e3] at hf;rw[<-hf] at h;exact h
     |rt d=>rw[e3] at hf;rw[<-hf] at h;exact h
     |ex c ρ2=>rw[e3] at hf;rw[<-hf] at h;exact h
     |bk ρ2=>rw[e3] at hf;rw[<-hf] at h;exact λ σ4 H4 O4 j4 r4=>h σ4 H4 O4 j4 (r1.trans r4)
     |nx ρ2=>rw[e3] at hf;exact λ σ4 H4 O4 j4 r4=>⟨O4,ρ2,j4,r1.trans r4,hf⟩
     |ct ρ2=>rw[e3] at hf;exact λ σ4 H4 O4 j4 r4=>⟨O4,ρ2,j4,r1.trans r4,hf⟩
end
end Pu
namespace Pu
open PySem PySem.Spec L2
open PyProof.Rows hiding St
section
variable {X:Cx} {a b e:Expr} {es:List Expr} {f g:aq->R D} {fa:aq->R (List D)} {pos:Pos}
noncomputable def amX (K:PySem.W.Frag) (t:TA):TE:=λ σ H Q=>t σ H λ xs H1=>xs.length<=sizeLine/\∀p,H1 p=none->K.lookup p=none->Q (.ref p) (upd H1 p (.lst xs))
theorem Inv.aoi {pins:List (Addr×Obj)} {σ:St} {H:Hp} {s:Shared} (I:Inv X pins σ H s):X.K.lookup s.heap.objs.size=none:=by
 cases q:X.K.lookup s.heap.objs.size with
 |none=>rfl
 |some o=>exact absurd (Heap.lt_size (I.kIn _ _ q)) (Nat.lt_irrefl _)
theorem ZX {t:TA} (h:PA X es t):PE X (.List es pos) (amX X.K t):=by
 intro pins s σ H Q I hq
 refine wpAny_List_spliced (thn (h pos pins s σ H _ I hq) λ us s1 ⟨xs,H1,I1,r,z,q⟩=>⟨by rw[<-r.length];exact z,?_⟩)
 have hf:H1 s1.heap.objs.size=none:=I1.hok.fresh (z0g _)
 refine⟨.ref s1.heap.objs.size,upd H1 s1.heap.objs.size (.lst xs),I1.laid (t':=s1.toks) (λ b u e=>Heap.get?_push_of_some _ e) (z0g _) ?_,rfl,q _ hf (Inv.aoi I1)⟩
 exact⟨z,us,0,r,Heap.get?_push_size _ rfl⟩
noncomputable def newL (fa:aq->R (List D)) (i:Nat):aq->So:=λ ρ=>match fa ρ with
 | .ok ds=>if ds.length<=1000000 then .nx (ρ.set i (some (.lst ds))) else .bad
 | .err c=> .ex c ρ
 | .bad=> .bad
theorem At.own {H0 H:Hp} {O0 O:Addr->Prop} {ρ:aq} {σ:St} (j:At X H0 O0 O H ρ σ) {i:Nat} (hi:i < X.N.length) {p:Addr} {o:HO} {en:Ent} (hp:H p=none) (hk:X.K.lookup p=none) (ho:en.own=true)
  (hr:sY X.K (λ a=>O a\/a=p) (upd H p o) en (.ref p)):
  At X H0 O0 (λ a=>O a\/a=p) (upd H p o) (ρ.set i (some en)) (σ.set i (some (.ref p)))/\gO X.K O H (λ a=>O a\/a=p) (upd H p o):=by
 have s1:Same H (upd H p o):=Same.upd hp
 have r1:gO X.K O H (λ a=>O a\/a=p) (upd H p o):=⟨(Same.gY (K:=X.K) (O:=O) s1).ext,λ a z=>z.elim .inl λ e=> .inr (by rw[e];exact⟨hp,hk⟩),(Same.gY (K:=X.K) (O:=O) s1).dom⟩
 have h1:i < ρ.length:=by rw[j.inn.sZ];exact hi
 have h2:i < σ.length:=by rw[j.inn.len];exact hi
 have nOp:¬O p:=j.inn.Dh hp
 have old:∀{e:Ent} {v:V},sY X.K O H e v->sY X.K (λ a=>O a\/a=p) (upd H p o) e v/\(e.own=true->v≠.ref p):=λ {e v} h=>by
  cases e with
  |val d=>exact⟨Rep.go r1 h,λ z=>by injection z⟩
  | lst ds=>
   obtain⟨a,xs,e1,o1,e2,r⟩:=h
   exact⟨⟨a,xs,e1,.inl o1,s1 _ _ e2,r.go r1⟩,λ Z z=>by rw[e1] at z;cases z;exact nOp o1⟩
  |obj t=>exact⟨uO.same s1 h,λ z=>by injection z⟩
  | HF kvs=>
   obtain⟨a,xs,e1,o1,e2,k,r⟩:=h
   exact⟨⟨a,xs,e1,.inl o1,s1 _ _ e2,k,r.go r1⟩,λ Z z=>by rw[e1] at z;cases z;exact nOp o1⟩
 refine⟨⟨j.same.trans s1,j.gY.trans r1,λ a z=> .inl (j.sub a z),⟨⟨λ k e h=>?_,λ k l e e' v hkl hk' hl ok ol sk sl=>?_⟩,λ a z=>?_,by rw[List.length_set];exact j.inn.len,by rw[List.length_set];exact j.inn.sZ⟩,λ k e a h hoo hs=>?_⟩,r1⟩
 ·by_cases hki:k=i
  ·subst hki
   rw[List.getElem?_set_self h1] at h
   (injection h with aH;injection aH with cV;subst cV)
   exact⟨.ref p,List.getElem?_set_self h2,hr⟩
  ·rw[List.getElem?_set_ne (Ne.symm hki)] at h
   obtain⟨v,q1,q2⟩:=j.inn.env.get k e h
   exact⟨v,by rw[List.getElem?_set_ne (Ne.symm hki)];exact q1,(old q2).1⟩
 ·by_cases hki:k=i
  ·subst hki
   rw[List.getElem?_set_self h2] at sk
   (injection sk with aH;injection aH with cV;subst cV)
   rw[List.getElem?_set_ne hkl] at hl sl
   obtain⟨v,q1,q2⟩:=j.inn.env.get l e' hl
   rw[q1] at sl
   (injection sl with aH;injection aH with cV;subst cV)
   exact (old q2).2 ol rfl
  ·rw[List.getElem?_set_ne (Ne.symm hki)] at hk' sk
   by_cases hli:l=i
   ·subst hli
    rw[List.getElem?_set_self h2] at sl
    (injection sl with aH;injection aH with cV;subst cV)
    obtain⟨v,q1,q2⟩:=j.inn.env.get k e hk'
    rw[q1] at sk
    (injection sk with aH;injection aH with cV;subst cV)
    exact (old q2).2 ok rfl
   ·rw[List.getElem?_set_ne (Ne.symm hli)] at hl sl
    exact j.inn.env.sep k l e e' v hkl hk' hl ok ol sk sl
 ·rcases z with z |z
  ·obtain⟨u,q⟩:=j.inn.al a z
   exact⟨u,s1 _ _ q⟩
  ·rw[z];exact⟨o,upd_same⟩
 ·by_cases hki:k=i
  ·subst hki
   rw[List.getElem?_set_self h2] at hs
   (injection hs with aH;injection aH with cV;injection cV with wV;subst wV)
   exact⟨j.same.free hp,λ z=>nOp (j.sub _ z)⟩
  ·rw[List.getElem?_set_ne (Ne.symm hki)] at h hs
   exact j.mine k e a h hoo hs
theorem pA (i:Nat) {x:Str} {pos' p2:Pos} (hN:X.N.Nodup) (ha:DA X es fa) (hi:autoParam (X.N[i]?=some x) bB._auto_1) (hx:autoParam (Loc X.env.scope x) ug._auto_1) (hs:autoParam (swapsWith (.List es p2) (some (.Name x pos')) pos.line X.env=pure false) bB._auto_1)
  (hf:autoParam (X.fn x=true\/X.env.scope.names.lookup x=some .local) uh._auto_1):DS X (.Assign [.Name x pos'] (.List es p2) pos) (newL fa i):=by
 refine PS.imp (ps_set hN hi hx (ZX ha) hs hf) λ σ H E h=>?_
 obtain⟨H0,O0,O,ρ,j,h⟩:=h
 refine⟨ρ,O,j.inn,?_⟩
 unfold newL at h
 cases e1:fa ρ with
 |bad=>rw[e1] at h;exact h
 |err c=>rw[e1] at h;exact h σ H O j
 | ok ds=>
  rw[e1] at h
  intro vs H1 s1 r1
  by_cases hl:ds.length<=1000000
  ·simp only[if_pos hl] at h
   refine⟨by rw[<-r1.length];exact z0b hl iT,λ p hp hk=>?_⟩
   obtain⟨j2,r2⟩:=(j.grow s1).own (List.getElem?_eq_some_iff.mp hi).1 (o:= .lst vs) (en:= .lst ds) hp hk rfl ⟨p,vs,rfl,.inr rfl,upd_same,r1.go ⟨(Same.gY (K:=X.K) (O:=O) (Same.upd hp)).ext,λ a z=>z.elim .inl λ e=> .inr (by rw[e];exact⟨hp,hk⟩),(Same.gY (K:=X.K) (O:=O) (Same.upd hp)).dom⟩⟩
   exact h _ _ _ j2 ((Same.gY s1).trans r2)
  ·simp only[if_neg hl] at h
   exact h.elim
theorem At.chg {H0 H:Hp} {O0 O:Addr->Prop} {ρ:aq} {σ:St} (j:At X H0 O0 O H ρ σ) {i:Nat} {e0 en:Ent} {p:Addr} {u o:HO} (hi:ρ[i]?=some (some e0)) (h0:e0.own=true) (hp:σ[i]?=some (some (.ref p))) (hO:O p) (hu:H p=some u) (hm:Mut (some u)) (ho:en.own=true)
  (hr:gO X.K O H O (upd H p o)->sY X.K O (upd H p o) en (.ref p)):At X H0 O0 O (upd H p o) (ρ.set i (some en)) σ/\gO X.K O H O (upd H p o):=by
 have nt:∀b xs,Rd H b (.tup xs)->b≠p:=λ b xs h z=>by
  subst z
  rcases h with h |⟨_,h⟩ <;> rw[hu] at h <;> (injection h with aH;subst aH) <;> exact hm
 have r1:gO X.K O H O (upd H p o):=by
  refine⟨⟨λ b xs h=>?_,λ b xs n h=>?_⟩,λ a z=> .inl z,λ a z=>?_⟩
  ·have nb:=nt b xs h
   rcases h with h |⟨q,h⟩
   ·exact .inl (by rw[upd_ne nb];exact h)
   ·exact .inr ⟨q,by rw[upd_ne nb];exact h⟩
  ·have nb:b≠p:=λ z=>n (by rw[z];exact hO)
   rcases h with h |⟨q,h⟩
   ·exact .inl (by rw[upd_ne nb];exact h)
   ·exact .inr ⟨q,by rw[upd_ne nb];exact h⟩
  ·by_cases ea:a=p
   ·rw[ea,upd_same] at z;injection z
   ·rw[upd_ne ea] at z;exact z
 have h1:i < ρ.length:=(List.getElem?_eq_some_iff.mp hi).1
 obtain⟨hH0,hO0⟩:=j.mine i e0 p hi h0 hp
 refine⟨⟨λ b q z=>?_,j.gY.trans r1,j.sub,⟨⟨λ k e h=>?_,λ k l e e' v hkl hk' hl ok ol sk sl=>?_⟩,λ a z=>?_,j.inn.len,by rw[List.length_set];exact j.inn.sZ⟩,λ k e a h hoo hs=>?_⟩,r1⟩
 ·rw[upd_ne (ne_of_none z hH0)];exact j.same _ _ z
 ·by_cases hki:k=i
  ·subst hki
   rw[List.getElem?_set_self h1] at h
   (injection h with aH;injection aH with cV;subst cV)
   exact⟨_,hp,hr r1⟩
  ·rw [List.getElem?_set_ne (Ne.symm hki)] at h
   obtain⟨v,q1,q2⟩:=j.inn.env.get k e h
   refine⟨v,q1,?_⟩
   have nv:e.own=true->v≠.ref p:=λ z w=>by
    subst w
    exact j.inn.env.sep k i e e0 _ hki h hi z h0 q1 hp
   cases e with
   |val d=>exact Rep.go r1 q2
   | obj t=>exact uO.fz (λ b o' u hb=>by
     have nb:b≠p:=λ z=>by rw[z,hu] at hb;(injection hb with aH;subst aH);exact hm
     rw[upd_ne nb];exact hb) q2
   | lst ds=>
    obtain⟨a,xs,e1,o1,e2,r⟩:=q2
    have na:a≠p:=λ z=>nv rfl (by rw[e1,z])
    exact⟨a,xs,e1,o1,by rw[upd_ne na];exact e2,r.go r1⟩
   | HF kvs=>
    obtain⟨a,xs,e1,o1,e2,kk,r⟩:=q2
    have na:a≠p:=λ z=>nv rfl (by rw[e1,z])
    exact⟨a,xs,e1,o1,by rw[upd_ne na];exact e2,kk,r.go r1⟩
 ·have un:∀{m:Nat} {x:Ent},(ρ.set i (some en))[m]?=some (some x)->x.own=true->∃y,ρ[m]?=some (some y)/\y.own=true:=λ {m x} h ho'=>by
   by_cases hmi:m=i
   ·rw[hmi];exact⟨e0,hi,h0⟩
   ·rw[List.getElem?_set_ne (Ne.symm hmi)] at h;exact⟨x,h,ho'⟩
  obtain⟨y,hy,oy⟩:=un hk' ok
  obtain⟨y',hy',oy'⟩:=un hl ol
  exact j.inn.env.sep k l y y' v hkl hy hy' oy oy' sk sl
 ·by_cases ea:a=p
  ·rw[ea];exact⟨o,upd_same⟩
  ·obtain⟨w,q⟩:=j.inn.al a z
   exact⟨w,by rw[upd_ne ea];exact q⟩
 ·by_cases hki:k=i
  ·subst hki
   rw[hp] at hs;(injection hs with aH;injection aH with cV;injection cV with wV;subst wV)
   exact⟨hH0,hO0⟩
  ·rw[List.getElem?_set_ne (Ne.symm hki)] at h
   exact j.mine k e a h hoo hs
noncomputable def qD (i:Nat) (f:aq->R D):aq->So:=λ ρ=>nP (PN (f ρ)) ρ λ d=>match ρ[i]? with
 |some (some (.lst ds))=>if ds.length < 1000000 then .nx (ρ.set i (some (.lst (ds++[d])))) else .bad
 |_=> .bad
theorem zp (i:Nat) {x:Str} {px apos cpos:Pos} (he:DE X e f) (hN:autoParam (X.N[i]?=some x) bB._auto_1) (hv:autoParam (Vis X.env.scope x) ZM._auto_1)
  (hd:autoParam ((x ==("__debug__" :Str))=false) dM._auto_1) (hcd:autoParam ((x ==("__classdict__" :Str))=false) dM._auto_1)
  (hbase:autoParam (attributeBase (.Name x px) "append" X.env (eval (.Name x px) X.env)=eval (.Name x px) X.env) bB._auto_1)
  (hfew:((backTo cpos (starEach [e] X.env)).all (λ x=> !x.1) && (backToKw cpos (keywordEach [] X.env)).all (λ x=>x.1.isSome)
   && decide ([e].length+([]:List Keyword).length+(if ([]:List Keyword).isEmpty then 0 else 1) < 30))=true:=by rfl)
  (hline:autoParam ((apos.endLine ==cpos.line)=true) bB._auto_1) (hs1:autoParam (starEach [e] X.env=(false,eval e X.env)::starEach [] X.env) bB._auto_1) (hplain:autoParam ((backTo cpos (starEach [] X.env)).any (·.1)=false) bB._auto_1)
  (hs:autoParam (swapsWith (.Call (.Attribute (.Name x px) "append" apos) [e] [] cpos) none pos.line X.env=pure false) bB._auto_1):
  DS X (.Expr (.Call (.Attribute (.Name x px) "append" apos) [e] [] cpos) pos) (qD i f):=by
 refine PS.imp (ps_expr (pe_bm PySem.F.plainAttrs_list PySem.F.slot_list_append PySem.F.type_list_append mt_append (pe_var hN hv hd hcd) (pa_cons he pa_nil hs1) hbase hfew hline hs1 hplain) hs) λ σ H E h=>?_
 refine bc λ zQ=>?_
 obtain⟨H0,O0,O,ρ,j,h⟩:=h
 apply zQ;clear zQ
 unfold qD nP at h
 refine bc λ zQ=>?_
 cases e1:f ρ with
 |bad=>rw[e1] at h;exact h.elim
 |err c=>rw[e1] at h;exact h.elim
 | ok d =>
  apply zQ;clear zQ
  rw[e1] at h
  refine bc λ zQ=>?_
  cases e2:ρ[i]? with
  |none=>simp only[e2] at h;exact h.elim
  | some oe=>
   apply zQ;clear zQ
   refine bc λ zQ=>?_
   cases oe with
   |none=>simp only[e2] at h;exact h.elim
   | some en=>
    apply zQ;clear zQ
    refine bc λ zQ=>?_
    cases en with
    |val _=>simp only[e2] at h;exact h.elim
    |HF _=>simp only[e2] at h;exact h.elim
    |obj _=>simp only[e2] at h;exact h.elim
    | lst ds=>
     apply zQ;clear zQ
     simp only[e2] at h
     by_cases hl:ds.length < 1000000
     ·simp only[if_pos hl] at h
      refine bc λ zQ=>?_
      obtain⟨v,hv1,a,xs,rfl,hO,hH,rs⟩:=j.inn.env.get i _ e2
      apply zQ;clear zQ
      refine⟨.ref a,hv1,.inl ⟨rfl,xs,SqL.of hH⟩,?_⟩
      refine⟨ρ,O,j.inn,?_⟩
      rw[e1]
      intro w H1 s1 rw1
      have j1:=j.grow s1
      refine bc λ zQ=>?_
      obtain⟨_,hv2,a2,xs2,e3,hO2,hH2,J3⟩:=j1.inn.env.get i _ e2
      apply zQ;clear zQ
      rw[hv1] at hv2
      (injection hv2 with aH;injection aH with cV;subst cV)
      (injection e3 with aH;subst aH)
      have hlen:=J3.length
      refine⟨a,xs2,w,rfl,rfl,hH2,by have:=jO;exact aio this hl hlen,?_⟩
      refine bc λ zQ=>?_
      obtain⟨j2,r2⟩:=j1.chg (o:= .lst (xs2++[w])) (en:= .lst (ds++[d])) e2 rfl hv1 hO2 hH2 trivial rfl λ r=>⟨a,xs2++[w],rfl,hO2,upd_same,(J3.append (.cons rw1 .nil)).go r⟩
      apply zQ;clear zQ
      exact h _ _ _ j2 ((Same.gY s1).trans r2)
     ·simp only[if_neg hl] at h;exact h.elim
end
inductive SpD (K:PySem.W.Frag) (n:Nat) (F:List D->R D) (vs:List V) (H:Hp) (Q:VK):Prop
 | mk (O:Addr->Prop) (ds:List D) (r:aZ K O H ds vs) (hl:ds.length=n) (al:∀a,O a->∃o,H a=some o) (h:match F ds with
  | .ok d=>∀v H',Same H H'->Rep K O H' d v->Q v H'
  |_=>False):SpD K n F vs H Q
noncomputable def TF (K:PySem.W.Frag) (n:Nat) (F:List D->R D):Sp:=λ vs H Q Z=>SpD K n F vs H Q
noncomputable def cT (n:Nat) (g:aq->So) (ds:List D):R D:=match g (ds.map (λ d=>some (.val d))++List.replicate n none) with
 | .rt d=> .ok d
 | .nx _=> .ok .non
 | .ex c _=> .err c
 |_=> .bad
section
variable {P:Program} {w:World} {K:PySem.W.Frag} {mg:Str->Option Value} {base:Heap}
theorem MF {K:PySem.W.Frag} {O:Addr->Prop} {H:Hp} {ds:List D} {vs:List V} (r:aZ K O H ds vs) (m:Nat) (i:Nat) (e:Ent) (h:(ds.map (λ d=>some (Ent.val d))++List.replicate m none)[i]?=some (some e)):∃v,(vs.map some++List.replicate m none)[i]?=some (some v)/\sY K O H e v/\e.own=false:=by
 by_cases hi:i < ds.length
 ·rw[List.getElem?_append_left (by simpa using hi),List.getElem?_map] at h
  cases q:ds[i]? with
  |none=>rw[q] at h;injection h
  | some d=>
   rw[q] at h
   (injection h with aH;injection aH with cV;subst cV)
   obtain⟨v,e1,rv⟩:=r.get q
   exact⟨v,by rw[List.getElem?_append_left (by rw[List.length_map,<-r.length];exact hi),List.getElem?_map,e1];rfl,rv,rfl⟩
 ·rw[List.getElem?_append_right (by simpa using hi),List.getElem?_replicate] at h
  split at h <;> (first |(injection h with aH;injection aH) |injection h)
theorem fnD {x qual:Str} {st:Stmt} {f:Addr} {fd:FuncData} {N ps:List Str} {k n m:Nat} {g:aq->So} {F:List D->R D} (Fn:Fun K x qual st f fd) (S:FnScope N ps (defScope st)) (hn:ps.length=n) (hm:N.length=n+m)
  (hb:∀(cdv:Value) (A:Around) (outer:List PySem.Env) (s:Shared) (H:Hp) (E:XK),Room k (A.deeper (envOfC qual (defScope st) s.heap.objs.size f cdv))->cW (cxOf CX0 P w K mg base N qual (defScope st) f cdv A outer s H E).nox (defBody st) g)
  (hF:∀ds d,ds.length=n->F ds= .ok d->cT m g ds= .ok d):FnOk P w K mg base CX0 (k+1) f fd ps (TF K n F):=by
 refine Fn.ok S (λ vs H Q E h=>?_) (λ cdv A outer s H vs Q E hr h=>?_)
 ·obtain⟨O,ds,r,hl,_⟩:=h
  rw[hn,<-hl,r.length]
 ·obtain⟨O,ds,r,hl,al,h⟩:=h
  refine⟨_,hb cdv A outer s H E hr,H,O,O,ds.map (λ d=>some (.val d))++List.replicate m none,?_,?_⟩
  ·have hst:L2.start N vs=vs.map some++List.replicate m none:=by
    unfold L2.start
    rw[show N.length - vs.length=m by rw[<-r.length];exact anH hm hl]
   refine⟨Same.refl _,.refl,λ Z z=>z,⟨⟨λ i e q=>?_,λ i k e e' v Z hi Z oi=>?_⟩,al,?_,?_⟩,λ i e a q ho=>?_⟩
   ·obtain⟨v,h1,h2,_⟩:=MF r m i e q
    exact⟨v,by rw[hst];exact h1,h2⟩
   ·obtain⟨_,_,_,h3⟩:=MF r m i e hi
    rw[h3] at oi;injection oi
   ·show (L2.start N vs).length=N.length
    rw[hst,List.length_append,List.length_map,List.length_replicate,<-r.length];exact aip hl hm
   ·show (ds.map (λ d=>some (Ent.val d))++List.replicate m none).length=N.length
    rw[List.length_append,List.length_map,List.length_replicate];exact aip hl hm
   ·obtain⟨_,_,_,h3⟩:=MF r m i e q
    rw[h3] at ho;injection ho
  ·cases e:F ds with
   |bad=>rw[e] at h;exact h.elim
   |err c=>rw[e] at h;exact h.elim
   | ok d=>
    rw[e] at h
    have q:=hF ds d hl e
    unfold cT at q
    cases e2:g (ds.map (λ d=>some (.val d))++List.replicate m none) with
    | rt d'=>
     rw[e2] at q
     cases q
     exact λ v H' s' r'=>h v H' s' r'
    | nx ρ'=>
     rw[e2] at q
     (injection q with aH;subst aH)
     exact λ σ' H' O' j' Z=>h .non H' j'.same uF
    |bk _=>rw[e2] at q;injection q
    |ct _=>rw[e2] at q;injection q
    |ex _ _=>rw[e2] at q;injection q
    |bad=>rw[e2] at q;injection q
end
section
variable {X:Cx} {k n:Nat} {f:Addr} {fd:FuncData} {ps:List Str} {F:List D->R D} {x:Str} {p pos:Pos} {e:Expr} {es:List Expr} {fa:aq->R (List D)}
noncomputable def bh (F:List D->R D) (n:Nat) (ds:List D):R D:=if ds.length=n then PN (F ds) else .bad
theorem agZ (G:FnOk X.prog X.w X.K X.mg X.base CX0 k f fd ps (TF X.K n F)) (hr:Room k X.A) (hg:Gl X x) (hm:X.mg x=some (.ref f)) (hk:PySem.W.keepIn X.K (.ref f)=true) (hb:Binds X.K fd ps [])
  (ha:DA X (e::es) fa) (hdb:autoParam ((x ==("__debug__" :Str))=false) dM._auto_1) (he:autoParam (starEach (e::es) X.env=(false,eval e X.env)::starEach es X.env) bB._auto_1) (hpl:autoParam ((backTo pos (starEach es X.env)).any (·.1)=false) bB._auto_1):
  DE X (.Call (.Name x p) (e::es) [] pos) (aF (bh F n) fa):=by
 refine PE.imp (pe_call (dvs:=[]) G hr hg hm hk hb .nil pass0 ha hdb he hpl) λ σ H Q h=>?_
 obtain⟨ρ,O,j,h⟩:=h
 refine go j h λ ds vs H1 e1 s1 r1 j1 h1=>?_
 unfold bh at h1
 by_cases hl:ds.length=n
 ·rw[if_pos hl] at h1
  rw[List.append_nil]
  refine⟨O,ds,r1,hl,j1.al,?_⟩
  cases q:F ds with
  |ok d=>rw[q] at h1;exact h1
  |err c=>rw[q] at h1;exact h1
  |bad=>rw[q] at h1;exact h1
 ·rw[if_neg hl] at h1;exact h1.elim
end
end Pu
namespace Pu
open PySem PySem.Spec L2
open PyProof.Rows hiding St
section
variable {X:Cx}
noncomputable def cM:List D->R D:=afd (λ ds=> .ok (.int ds.length)) (λ ds=> .ok (.int ds.length))
theorem uX (ds:List D):cM [.tup ds]=(.ok (.int ds.length)):=rfl
theorem qF (ds:List D):cM [.lst ds]=(.ok (.int ds.length)):=rfl
theorem cJ:CallD X (.builtin "len") cM:=by
 refine⟨_,call_len_seq,λ ρ O σ H Q xs ds j r h=>?_⟩
 replace h:=ZS h
 obtain⟨es,⟨rfl,h⟩ |⟨rfl,h⟩⟩:=h
 ·obtain⟨x,rfl,rx⟩:=r.one
  obtain⟨a,ys,rfl,hq,rs⟩:=rx.tup
  exact⟨a,ys,rfl,.inr hq,by rw[<-rs.length];exact fin h (cO _)⟩
 ·obtain⟨x,rfl,rx⟩:=r.one
  obtain⟨a,ys,rfl,hq,_,rs⟩:=rx.lst
  exact⟨a,ys,rfl,.inl hq,by rw[<-rs.length];exact fin h (cO _)⟩
noncomputable def mJ:List D->R D:=afd (λ ds=> .ok (.tup ds)) (λ ds=> .ok (.tup ds))
theorem aoy (ds:List D):mJ [.tup ds]=(.ok (.tup ds)):=rfl
theorem aov (ds:List D):mJ [.lst ds]=(.ok (.tup ds)):=rfl
theorem iw:CallD X (.type "tuple") mJ:=by
 refine⟨_,call_tuple_of,λ ρ O σ H Q xs ds j r h=>?_⟩
 replace h:=ZS h
 obtain⟨es,⟨rfl,h⟩ |⟨rfl,h⟩⟩:=h
 ·obtain⟨x,rfl,rx⟩:=r.one
  obtain⟨a,ys,rfl,hq,rs⟩:=rx.tup
  exact⟨a,ys,rfl,.inr ⟨hq,fin h (jz hq rs)⟩⟩
 ·obtain⟨x,rfl,rx⟩:=r.one
  obtain⟨a,ys,rfl,hq,_,rs⟩:=rx.lst
  exact⟨a,ys,rfl,.inl ⟨hq,λ l hl=>h _ _ (Same.upd hl) (Rep.uH hl rs)⟩⟩
noncomputable def boolsOf:List D->Option (List Bool)
 |[]=>some []
 | .bl b::r=>(boolsOf r).map (b:: ·)
 |_=>none
theorem ada (b:Bool) (r:List D):boolsOf (.bl b::r)=(boolsOf r).map (b:: ·):=rfl
noncomputable def intsOf:List D->Option (List Int)
 |[]=>some []
 | .int i::r=>(intsOf r).map (i:: ·)
 |_=>none
theorem afg (b:Int) (r:List D):intsOf (.int b::r)=(intsOf r).map (b:: ·):=rfl
theorem MJ {K:PySem.W.Frag} {O:Addr->Prop} {H:Hp}:∀{ds:List D} {bs:List Bool} {vs:List V},boolsOf ds=some bs->aZ K O H ds vs->vs=bs.map V.bl
 |[],bs,vs,e,r=>by (injection e with aH;subst aH);exact r.nil_inv
 | d ::ds,bs,vs,e,r=>by
  cases d with
  | bl b=>
   have e:(boolsOf ds).map (b:: ·)=some bs:=e
   cases q:boolsOf ds with
   |none=>rw[q] at e;injection e
   | some l=>
    rw[q] at e
    (injection e with aH;subst aH)
    obtain⟨x,t,rfl,rx,rt⟩:=r.cons_inv
    rw[rx.bl,MJ q rt];rfl
  |_=>injection e
theorem TJ {K:PySem.W.Frag} {O:Addr->Prop} {H:Hp}:∀{ds:List D} {bs:List Int} {vs:List V},intsOf ds=some bs->aZ K O H ds vs->vs=bs.map V.int
 |[],bs,vs,e,r=>by (injection e with aH;obtain rfl:=aH);exact r.nil_inv
 | d ::ds,bs,vs,e,r=>by
  cases d with
  | int b=>
   have e:(intsOf ds).map (b:: ·)=some bs:=e
   cases q:intsOf ds with
   |none=>rw[q] at e;injection e
   | some l=>
    rw[q] at e
    (injection e with aH;obtain rfl:=aH)
    obtain⟨x,t,rfl,rx,rt⟩:=r.cons_inv
    rw[rx.int,TJ q rt];rfl
  |_=>injection e
theorem Ja:∀{bs:List Bool} {us:List Value},Vals (bs.map V.bl) us->LSm.BoolsAre us bs
 |[],_,.nil=> .nil
 |b::bs,_,.cons r t=>by obtain rfl:=r;exact .cons b (Ja t)
theorem adb (hc:X.calm=true):CallR X (.builtin "all") (λ xs H Q=>∃p,∃bs:List Bool,xs=[.ref p]/\SqL X.K H p (bs.map V.bl)/\Q (.bl (bs.all id)) H):=by
 intro pins s σ H xs us Q I r h
 obtain⟨p,bs,rfl,hq,q⟩:=h
 obtain⟨u,rfl,rx⟩:=vals1 r
 obtain rfl:=rx
 obtain⟨its,r',pl,hz⟩:=I.list hq
 have hb:=Ja r'
 have hl:=pl.isList
 have hlt:p < s.heap.objs.size:=by obtain⟨_,e,_⟩:=hl;exact Heap.lt_size e
 refine call_all_walk (wpAny_pyIter_list hl ?_)
 refine⟨s.heap.objs.size,[s.heap.objs.size,p],[s.heap.objs.size],its.toArray.size,_,_,λ i=>(bs[i]?).getD true,rfl,Walks.list (A:=X.A.in1) (I.ok.hd hc) _ p (Nat.ne_of_lt hlt) its.toArray,
  ⟨⟨_,Heap.get?_push_size _ rfl,rfl,rfl⟩,hl.push _⟩,λ i v s' Q' E' hP hQ=>?_,λ h' tk hk=>?_⟩
 ·obtain⟨b,e,rfl⟩:=hb.get i v (by simpa using hP)
  simp only[e,Option.getD_some] at hQ
  exact wpAny_truthy_bool hQ
 ·have e:((List.range its.toArray.size).all λ i=>(bs[i]?).getD true)=bs.all id:=by
   rw[List.size_toArray,hb.length];exact LSm.range_all bs
  rw[e]
  exact⟨.bl _,H,I.kept (LSm.kept_iter hk),rfl,q⟩
noncomputable def Aj:List D->R D:=aaN λ ds=>match boolsOf ds with
  |some bs=> .ok (.bl (bs.all id))
  |none=> .bad
theorem aiS (ds:List D):Aj [.lst ds]=(match boolsOf ds with
  |some bs=> .ok (.bl (bs.all id))
  |none=> .bad):=rfl
theorem Dn (hc:X.calm=true):CallD X (.builtin "all") Aj:=by
 refine⟨_,adb hc,λ ρ O σ H Q xs ds j r h=>?_⟩
 replace h:=Mv h
 obtain⟨ds,rfl,h⟩:=h
 ·skip
  obtain⟨x,rfl,rx⟩:=r.one
  obtain⟨a,ys,rfl,hq,_,rs⟩:=rx.lst
  cases e:boolsOf ds with
  |none=>rw[e] at h;exact h.elim
  | some bs=>
   rw[e] at h
   have ey:=MJ e rs
   subst ey
   exact⟨a,bs,rfl,hq,fin h (gb _)⟩
theorem ade (hc:X.calm=true):CallR X (.builtin "sum") (λ xs H Q=>∃p,∃ns:List Int,xs=[.ref p]/\(SqL X.K H p (ns.map V.int)\/SqT X.K H p (ns.map V.int))/\Q (.int ns.sum) H):=by
 intro pins s σ H xs us Q I r h
 obtain⟨p,ns,rfl,hq,q⟩:=h
 obtain⟨u,rfl,rx⟩:=vals1 r
 obtain rfl:=rx
 have key:∀(its:List Value),Vals (ns.map V.int) its->∃zs:Array (Int×Tok),its.toArray=intItems zs/\preSum (numAt zs) zs.size=ns.sum:=λ its r'=>by
  have hi:=intsAre_of r'
  obtain⟨zs,hx⟩:=hi.allInts.items
  refine⟨zs,hx,?_⟩
  have e1:ns=zs.toList.map (·.1):=by
   rw[<-nums_intItems,<-hx]
   exact (show numsOf its.toArray.toList=ns from hi.numsOf).symm
  rw[preSum_eq,List.take_of_length_le (by simp),e1]
 rcases hq with hq |hq
 ·obtain⟨its,r',pl,hz⟩:=I.list hq
  obtain⟨zs,e1,e2⟩:=key its r'
  refine sum_intListG (I.ok.hd hc) (e1▸pl.isList) λ h' tk t' hk=>?_
  rw[e2]
  exact⟨.int _,H,I.kept hk,⟨t',rfl⟩,q⟩
 ·obtain⟨its,r',pl,hz⟩:=I.tuple hq
  obtain⟨zs,e1,e2⟩:=key its r'
  refine PySem.W.ktm_sumG (I.ok.hd hc) (show s.heap.IsTuple p (intItems zs) from e1▸pl) λ h' tk t' hk=>?_
  rw[e2]
  exact⟨.int _,H,I.kept hk,⟨t',rfl⟩,q⟩
noncomputable def TQ:List D->R D
 | [.lst ds]=>match intsOf ds with
  |some bs=> .ok (.int bs.sum)
  |none=> .bad
 | [.tup ds]=>match intsOf ds with
  |some bs=> .ok (.int bs.sum)
  |none=> .bad
 |_=> .bad
set_option tactic.hygienic true in
theorem aiT (hc:X.calm=true):CallD X (.builtin "sum") TQ:=by
 refine⟨_,ade hc,λ ρ O σ H Q xs ds j r h=>?_⟩
 unfold TQ at h
 split at h
 ·rename_i ds
  obtain⟨x,rfl,rx⟩:=r.one
  obtain⟨a,ys,rfl,hq,_,rs⟩:=rx.lst
  cases e:intsOf ds with
  |none=>rw[e] at h;exact h.elim
  | some bs=>
   rw[e] at h
   have ey:=TJ e rs
   subst ey
   exact⟨a,bs,rfl,.inl hq,fin h (cO _)⟩
 ·rename_i ds
  obtain⟨x,rfl,rx⟩:=r.one
  obtain⟨a,ys,rfl,hq,rs⟩:=rx.tup
  cases e:intsOf ds with
  |none=>rw[e] at h;exact h.elim
  | some bs=>
   rw[e] at h
   have ey:=TJ e rs
   subst ey
   exact⟨a,bs,rfl,.inr hq,fin h (cO _)⟩
 ·exact h.elim
noncomputable def mK:D->String
 | .non=> "NoneType"
 | .bl _=> "bool"
 | .int _=> "int"
 | .str _=> "str"
 | .tup _=> "tuple"
 | .lst _=> "list"
theorem adf (T:String) (ans:String->Bool) (hk:∀d:D,PySem.W.kitOne X.K (.type (mK d)) (.type T)=some (ans (mK d))):
  CallR X (.builtin "isinstance") (λ xs H Q=>∃x O d,xs=[x,.ty T]/\Rep X.K O H d x/\Q (.bl (ans (mK d))) H):=by
 intro pins s σ H xs us Q I r h
 refine bc λ zQ=>?_
 obtain⟨x,O,d,rfl,rd,q⟩:=h
 obtain⟨u,u2,rfl,rx,r2⟩:=vals2 r
 apply zQ;clear zQ
 obtain rfl:=r2
 have e:=hk d
 have fin':∀tk,EP X pins σ Q (.bool (ans (mK d))) {s with toks:=tk}:=λ tk=>⟨.bl _,H,I.tok _,rfl,q⟩
 refine bc λ zQ=>?_
 cases d with
 | non=>
  apply zQ;clear zQ
  cases rd.non
  obtain rfl:u=Value.none:=rx
  exact PySem.W.kia_one PySem.W.kitx_none I.kIn True.intro e (λ z=>nomatch z) fin'
 | bl b=>
  apply zQ;clear zQ
  cases rd.bl
  obtain rfl:u=Value.bool b:=rx
  exact PySem.W.kia_one PySem.W.kitx_bool I.kIn True.intro e (λ z=>nomatch z) fin'
 | int i=>
  apply zQ;clear zQ
  cases rd.int
  refine bc λ zQ=>?_
  obtain⟨t,z⟩:=(show ∃t,u=Value.int i t from rx)
  apply zQ;clear zQ
  subst z
  exact PySem.W.kia_one PySem.W.kitx_int I.kIn True.intro e (λ z=>nomatch z) fin'
 | str y=>
  apply zQ;clear zQ
  cases rd.str
  refine bc λ zQ=>?_
  obtain⟨t,z⟩:=(show ∃t,u=Value.str y t from rx)
  apply zQ;clear zQ
  subst z
  exact PySem.W.kia_one PySem.W.kitx_str I.kIn True.intro e (λ z=>nomatch z) fin'
 | tup ds=>
  apply zQ;clear zQ
  refine bc λ zQ=>?_
  obtain⟨a,ys,rfl,hq,_⟩:=rd.tup
  apply zQ;clear zQ
  obtain rfl:u=Value.ref a:=rx
  refine bc λ zQ=>?_
  obtain⟨its,_,pl,_⟩:=I.tuple hq
  obtain⟨o,h1,h2,_⟩:=pl
  apply zQ;clear zQ
  exact PySem.W.kia_one PySem.W.kitx_tuple I.kIn ⟨o,h1,h2⟩ e (λ z=>nomatch z) fin'
 | lst ds=>
  apply zQ;clear zQ
  refine bc λ zQ=>?_
  obtain⟨a,ys,rfl,hq,_,_⟩:=rd.lst
  apply zQ;clear zQ
  obtain rfl:u=Value.ref a:=rx
  refine bc λ zQ=>?_
  obtain⟨its,_,pl,_⟩:=I.list hq
  obtain⟨o,n,h1,h2,_⟩:=pl
  apply zQ;clear zQ
  exact PySem.W.kia_one PySem.W.kitx_list I.kIn ⟨o,h1,h2⟩ e (λ z=>nomatch z) fin'
noncomputable def Hh (ans:String->Bool) (f:aq->R D):aq->R D:=λ ρ=>(f ρ).bind λ d=> .ok (.bl (ans (mK d)))
theorem zq {T:String} {ans:String->Bool} {x y:Str} {e:Expr} {f:aq->R D} {p p2 pos:Pos} (hk:∀d:D,PySem.W.kitOne X.K (.type (mK d)) (.type T)=some (ans (mK d))) (he:DE X e f)
  (hg:Gl X x) (hm:X.mg x=none) (hv:bootBuiltins x=some (.builtin "isinstance")) (hgy:Gl X y) (hmy:X.mg y=none) (hvy:bootBuiltins y=some (.type T)) (hn:autoParam (x≠"__name__") dM._auto_1) (hdb:autoParam ((x ==("__debug__" :Str))=false) dM._auto_1)
  (hny:autoParam (y≠"__name__") dM._auto_1) (hdy:autoParam ((y ==("__debug__" :Str))=false) dM._auto_1)
  (hs:autoParam (starEach [e,.Name y p2] X.env=(false,eval e X.env)::starEach [.Name y p2] X.env) bB._auto_1) (hs2:autoParam (starEach [.Name y p2] X.env=(false,eval (.Name y p2) X.env)::starEach [] X.env) bB._auto_1) (hpl:autoParam ((backTo pos (starEach [.Name y p2] X.env)).any (·.1)=false) bB._auto_1):
  DE X (.Call (.Name x p) [e,.Name y p2] [] pos) (Hh ans f):=by
 refine PE.imp (pe_callB (adf T ans hk) hg hm hv (pa_cons he (pa_cons (pe_bltn (v:= .ty T) hgy hmy hvy rfl hny hdy) pa_nil hs2) hs) hn hdb hs hpl) λ σ H Q h=>?_
 obtain⟨ρ,O,j,h⟩:=h
 refine go j h λ d v H1 e1 s1 r1 j1 h1=>?_
 exact⟨v,O,d,rfl,r1,fin h1 (gb _)⟩
end
mutual
noncomputable def gk:D->D->Bool
 | .non,.non=>true
 | .bl a,.bl b=>a ==b
 | .bl a,.int b=>(if a then 1 else 0) ==b
 | .int a,.bl b=>a ==(if b then 1 else 0)
 | .int a,.int b=>a ==b
 | .str a,.str b=>a ==b
 | .tup a,.tup b=>uY a b
 | .lst a,.lst b=>uY a b
 |_,_=>false
noncomputable def uY:List D->List D->Bool
 |[],[]=>true
 |x::xs,y::ys=>gk x y && uY xs ys
 |_,_=>false
end
mutual
noncomputable def dep:D->Nat
 | .tup a=>deps a+1
 | .lst a=>deps a+1
 |_=>0
noncomputable def deps:List D->Nat
 |[]=>0
 |x::xs=>max (dep x) (deps xs)
end
theorem jr (a:List D):dep (.tup a)=deps a+1:=rfl
theorem jt (a:List D):dep (.lst a)=deps a+1:=rfl
theorem uo (a:Int):dep (.int a)=0:=rfl
theorem uq (a:Bool):dep (.bl a)=0:=rfl
theorem ur (a:Str):dep (.str a)=0:=rfl
theorem uw:dep .non=0:=rfl
theorem aiU:deps []=0:=rfl
theorem TV (x:D) (xs:List D):deps (x::xs)=max (dep x) (deps xs):=rfl
theorem qG:∀{ds:List D} {d:D},d∈ds->dep d<=deps ds
 |[],_,h=>by simp at h
 | x::xs,d,h=>by
  rw[TV]
  rcases List.mem_cons.mp h with e |h
  ·subst e;exact Nat.le_max_left _ _
  ·exact z0b (qG h) (Nat.le_max_right _ _)
theorem MK (x y:D) (xs ys:List D):uY (x::xs) (y::ys)=(gk x y && uY xs ys):=rfl
theorem aN (a b:Bool):gk (.bl a) (.bl b)=(a ==b):=rfl
theorem aO (a:Bool) (b:Int):gk (.bl a) (.int b)=((if a then 1 else 0) ==b):=rfl
theorem aP (a:Int) (b:Bool):gk (.int a) (.bl b)=(a ==(if b then 1 else 0)):=rfl
theorem aQ (a b:Int):gk (.int a) (.int b)=(a ==b):=rfl
theorem aR (a b:Str):gk (.str a) (.str b)=(a ==b):=rfl
theorem aL (a b:List D):gk (.tup a) (.tup b)=uY a b:=rfl
theorem aK (a b:List D):gk (.lst a) (.lst b)=uY a b:=rfl
mutual
theorem Jb:∀d:D,gk d d=true
 | .non=>rfl
 | .bl a=>by simp[aN,aO,aP,aQ,aR,aL,aK]
 | .int a=>by simp[aN,aO,aP,aQ,aR,aL,aK]
 | .str a=>by simp[aN,aO,aP,aQ,aR,aL,aK]
 | .tup a=>by rw[aL];exact sJ a
 | .lst a=>by rw[aK];exact sJ a
theorem sJ:∀d:List D,uY d d=true
 |[]=>rfl
 |x::xs=>by rw[MK,Jb x,sJ xs];rfl
end
theorem uZ:∀{xs ys:List D},xs.length≠ys.length->uY xs ys=false
 |[],[],h=>absurd rfl h
 |[],_::_,_=>rfl
 |_::_,[],_=>rfl
 | x::xs,y::ys,h=>by
  rw[MK,uZ (xs:=xs) (ys:=ys) (λ e=>h (by simp[e])),Bool.and_false]
theorem u6:∀{xs ys:List D},xs.length=ys.length->uY xs ys=(List.range xs.length).all λ i=>gk (xs.getD i .non) (ys.getD i .non)
 |[],[],_=>rfl
 |[],_::_,h=>by simp at h
 |_::_,[],h=>by simp at h
 | x::xs,y::ys,h=>by
  rw[MK,u6 (xs:=xs) (ys:=ys) (by simpa using h),List.length_cons,List.range_succ_eq_map,List.all_cons,List.all_map]
  rfl
end Pu
namespace Pu
open PySem PySem.Spec L2
open PyProof.Rows hiding St
open PySem.SeqAt
inductive LkT (X:Cx) (O:Addr->Prop) (H:Hp) (s:Shared) (ds:List D) (u:Value):Prop
 |mk (a:Addr) (xs:List V) (its:List Value) (e:u=Value.ref a) (q:SqT X.K H a xs) (v:Vals xs its) (p:s.heap.IsTuple a its.toArray) (r:aZ X.K O H ds xs):LkT X O H s ds u
inductive LkL (X:Cx) (O:Addr->Prop) (H:Hp) (s:Shared) (ds:List D) (u:Value):Prop
 |mk (a:Addr) (xs:List V) (its:List Value) (e:u=Value.ref a) (q:SqL X.K H a xs) (v:Vals xs its) (p:s.heap.IsList a its.toArray) (r:aZ X.K O H ds xs):LkL X O H s ds u
noncomputable def Lk (X:Cx) (O:Addr->Prop) (H:Hp) (s:Shared):D->Value->Prop
 | .non,u=>u=Value.none
 | .bl b,u=>u=Value.bool b
 | .int i,u=>∃t,u=Value.int i t
 | .str x,u=>∃t,u=Value.str x t
 | .tup ds,u=>LkT X O H s ds u
 | .lst ds,u=>LkL X O H s ds u
section
variable {X:Cx} {pins:List (Addr×Obj)} {σ:St} {H:Hp} {s:Shared} {O O':Addr->Prop}
theorem wW (I:Inv X pins σ H s) {d:D} {v:V} {u:Value} (r:Rep X.K O H d v) (q:RelV v u):Lk X O H s d u:=by
 cases d with
 |non=>cases r.non;exact q
 |bl b=>cases r.bl;exact q
 |int i=>cases r.int;exact q
 |str x=>cases r.str;exact q
 | tup ds=>
  obtain⟨a,xs,rfl,hq,rs⟩:=r.tup
  obtain rfl:u=Value.ref a:=q
  obtain⟨its,rv,p,_⟩:=I.tuple hq
  exact⟨a,xs,its,rfl,hq,rv,p,rs⟩
 | lst ds=>
  obtain⟨a,xs,rfl,hq,_,rs⟩:=r.lst
  obtain rfl:u=Value.ref a:=q
  obtain⟨its,rv,p,_⟩:=I.list hq
  exact⟨a,xs,its,rfl,hq,rv,p.isList,rs⟩
theorem isTuple_list {a:Addr} {p q:Array Value} (h1:s.heap.IsTuple a p) (h2:s.heap.IsList a q):False:=ne_of_list_tuple h2 h1 rfl
mutual
theorem Rep.inj (I:Inv X pins σ H s):∀(d e:D) (v:V),Rep X.K O H d v->Rep X.K O' H e v->d=e
 | .non,e,v,r,q=>by
  cases r.non
  cases e with
  |non=>rfl
  |bl _=>cases q.bl
  |int _=>cases q.int
  |str _=>cases q.str
  |tup _=>obtain⟨_,_,z,_⟩:=q.tup;injection z
  |lst _=>obtain⟨_,_,z,_⟩:=q.lst;injection z
 | .bl b,e,v,r,q=>by
  cases r.bl
  cases e with
  |non=>cases q.non
  |bl _=>cases q.bl;rfl
  |int _=>cases q.int
  |str _=>cases q.str
  |tup _=>obtain⟨_,_,z,_⟩:=q.tup;injection z
  |lst _=>obtain⟨_,_,z,_⟩:=q.lst;injection z
 | .int b,e,v,r,q=>by
  cases r.int
  cases e with
  |non=>cases q.non
  |bl _=>cases q.bl
  |int _=>cases q.int;rfl
  |str _=>cases q.str
  |tup _=>obtain⟨_,_,z,_⟩:=q.tup;injection z
  |lst _=>obtain⟨_,_,z,_⟩:=q.lst;injection z
 | .str b,e,v,r,q=>by
  cases r.str
  cases e with
  |non=>cases q.non
  |bl _=>cases q.bl
  |int _=>cases q.int
  |str _=>cases q.str;rfl
  |tup _=>obtain⟨_,_,z,_⟩:=q.tup;injection z
  |lst _=>obtain⟨_,_,z,_⟩:=q.lst;injection z
 | .tup ds,e,v,r,q=>by
  obtain⟨a,xs,rfl,hq,rs⟩:=r.tup
  cases e with
  |non=>cases q.non
  |bl _=>cases q.bl
  |int _=>cases q.int
  |str _=>cases q.str
  | tup es=>
   obtain⟨b,ys,z,hq',rs'⟩:=q.tup
   (injection z with aH;subst aH)
   cases I.tuple_inj hq hq'
   rw[aZ.inj I ds es xs rs rs']
  | lst es=>
   obtain⟨b,ys,z,hq',_,rs'⟩:=q.lst
   (injection z with aH;subst aH)
   obtain⟨_,_,p1,_⟩:=I.tuple hq
   obtain⟨_,_,p2,_⟩:=I.list hq'
   exact (isTuple_list p1 p2.isList).elim
 | .lst ds,e,v,r,q=>by
  obtain⟨a,xs,rfl,hq,_,rs⟩:=r.lst
  cases e with
  |non=>cases q.non
  |bl _=>cases q.bl
  |int _=>cases q.int
  |str _=>cases q.str
  | tup es=>
   obtain⟨b,ys,z,hq',rs'⟩:=q.tup
   (injection z with aH;subst aH)
   obtain⟨_,_,p1,_⟩:=I.tuple hq'
   obtain⟨_,_,p2,_⟩:=I.list hq
   exact (isTuple_list p1 p2.isList).elim
  | lst es=>
   obtain⟨b,ys,z,hq',_,rs'⟩:=q.lst
   (injection z with aH;subst aH)
   cases I.list_inj hq hq'
   rw[aZ.inj I ds es xs rs rs']
theorem aZ.inj (I:Inv X pins σ H s):∀(ds es:List D) (vs:List V),aZ X.K O H ds vs->aZ X.K O' H es vs->ds=es
 | [],es,vs,r,q=>by
  rw[r.nil_inv] at q
  cases es with
  |nil=>rfl
  |cons e es=>obtain⟨_,_,z,_⟩:=q.cons_inv;injection z
 | d ::ds,es,vs,r,q=>by
  obtain⟨x,t,rfl,rx,rt⟩:=r.cons_inv
  cases es with
  |nil=>cases q.nil_inv
  | cons e es=>
   obtain⟨_,_,z,qx,qt⟩:=q.cons_inv
   (injection z with aH cV;subst aH;subst cV)
   rw[Rep.inj I d e x rx qx,aZ.inj I ds es t rt qt]
end
theorem qH {A:Around} {ds es:List D} {xs ys:List V} {its jts:List Value} (r1:aZ X.K O H ds xs) (r2:aZ X.K O' H es ys) (v1:Vals xs its) (v2:Vals ys jts)
  (ih:∀d∈ds,∀(e:D) (v w:V) (u u':Value),Rep X.K O H d v->Rep X.K O' H e w->RelV v u->RelV w u'->EqAt A s u u' (gk d e)):
  ∀j (h1:j < its.toArray.size) (h2:j < jts.toArray.size),EqAt A s its.toArray[j] jts.toArray[j] (gk (ds.getD j .non) (es.getD j .non)):=by
 intro j h1 h2
 have e1:its[j]?=some its.toArray[j]:=by simp
 have e2:jts[j]?=some jts.toArray[j]:=by simp
 have l1:=v1.length
 have l2:=v2.length
 have k1:=r1.length
 have k2:=r2.length
 simp only[List.size_toArray] at h1 h2
 refine bc λ zQ=>?_
 obtain⟨v,ev,rv⟩:∃v,xs[j]?=some v/\RelV v its.toArray[j]:=by
  have hj:j < xs.length:=by exact Tp h1 l1
  obtain⟨u,eu,ru⟩:=v1.get (i:=j) (x:=xs[j]) (by simp[hj])
  rw[e1] at eu;(injection eu with aH;subst aH)
  exact⟨_,by simp[hj],ru⟩
 obtain⟨w,ew,rw'⟩:∃v,ys[j]?=some v/\RelV v jts.toArray[j]:=by
  have hj:j < ys.length:=by exact Tp h2 l2
  obtain⟨u,eu,ru⟩:=v2.get (i:=j) (x:=ys[j]) (by simp[hj])
  rw[e2] at eu;(injection eu with aH;subst aH)
  exact⟨_,by simp[hj],ru⟩
 obtain⟨d,ed,rd⟩:=r1.ak ev
 obtain⟨e,ee,re⟩:=r2.ak ew
 apply zQ;clear zQ
 have g1:ds.getD j .non=d:=by simp[List.getD,ed]
 have g2:es.getD j .non=e:=by simp[List.getD,ee]
 rw[g1,g2]
 exact ih d (List.mem_of_getElem? ed) e v w _ _ rd re rv rw'
theorem Jc {ds es:List D} {n m:Nat} (hn:ds.length=n) (hm:es.length=m):((List.range (min n m)).all (λ j=>gk (ds.getD j .non) (es.getD j .non)) && n ==m)=uY ds es:=by
 by_cases h:n=m
 ·subst h
  rw[Nat.min_self,beq_self_eq_true,Bool.and_true,u6 (by rw[hn,hm]),hn]
 ·rw[uZ (by rw[hn,hm];exact h),show (n ==m)=false by simpa using h,Bool.and_false]
theorem TX (I:Inv X pins σ H s) {A:Around} (hu:A.units < cLine) {d e:D} {u u':Value} (h1:Lk X O H s d u) (h2:Lk X O' H s e u')
  (ih:∀c∈(match d with | .tup ds=>ds | .lst ds=>ds |_=>[]),∀(e:D) (v w:V) (u u':Value),Rep X.K O H c v->Rep X.K O' H e w->RelV v u->RelV w u'->EqAt A.in1 s u u' (gk c e)):EqAt A s u u' (gk d e):=by
 cases d with
 | non =>
  obtain rfl:=h1
  cases e with
  | non=>
   obtain rfl:=h2
   exact EqAt.same _
  | bl b=>
   obtain rfl:=h2
   first
    |exact EqAt.none_bool _
    |(have q:=EqAt.none_bool (A:=A) (s:=s) _;simpa[aN,aO,aP,aQ,aR,aL,aK] using q)
  | int b=>
   obtain⟨t2,rfl⟩:=h2
   first
    |exact EqAt.none_int _ _
    |(have q:=EqAt.none_int (A:=A) (s:=s) _ _;simpa[aN,aO,aP,aQ,aR,aL,aK] using q)
  | str b=>
   obtain⟨t2,rfl⟩:=h2
   first
    |exact EqAt.none_str _ _
    |(have q:=EqAt.none_str (A:=A) (s:=s) _ _;simpa[aN,aO,aP,aQ,aR,aL,aK] using q)
  | tup es=>
   obtain⟨p2,ys,jts,rfl,hq2,v2,hp2,r2⟩:=h2
   first
    |exact EqAt.none_tuple hp2 hu
    |(have q:=EqAt.none_tuple (A:=A) (s:=s) hp2 hu;simpa[aN,aO,aP,aQ,aR,aL,aK] using q)
  | lst es=>
   obtain⟨p2,ys,jts,rfl,hq2,v2,hp2,r2⟩:=h2
   first
    |exact EqAt.none_list hp2 hu
    |(have q:=EqAt.none_list (A:=A) (s:=s) hp2 hu;simpa[aN,aO,aP,aQ,aR,aL,aK] using q)
 | bl a=>
  obtain rfl:=h1
  cases e with
  | non=>
   obtain rfl:=h2
   first
    |exact EqAt.bool_none _
    |(have q:=EqAt.bool_none (A:=A) (s:=s) _;simpa[aN,aO,aP,aQ,aR,aL,aK] using q)
  | bl b=>
   obtain rfl:=h2
   first
    |exact EqAt.bool_bool _ _
    |(have q:=EqAt.bool_bool (A:=A) (s:=s) _ _;simpa[aN,aO,aP,aQ,aR,aL,aK] using q)
  | int b=>
   obtain⟨t2,rfl⟩:=h2
   first
    |exact EqAt.bool_int _ _ _
    |(have q:=EqAt.bool_int (A:=A) (s:=s) _ _ _;simpa[aN,aO,aP,aQ,aR,aL,aK] using q)
  | str b=>
   obtain⟨t2,rfl⟩:=h2
   first
    |exact EqAt.bool_str _ _ _
    |(have q:=EqAt.bool_str (A:=A) (s:=s) _ _ _;simpa[aN,aO,aP,aQ,aR,aL,aK] using q)
  | tup es=>
   obtain⟨p2,ys,jts,rfl,hq2,v2,hp2,r2⟩:=h2
   first
    |exact EqAt.bool_tuple _ hp2 hu
    |(have q:=EqAt.bool_tuple (A:=A) (s:=s) _ hp2 hu;simpa[aN,aO,aP,aQ,aR,aL,aK] using q)
  | lst es=>
   obtain⟨p2,ys,jts,rfl,hq2,v2,hp2,r2⟩:=h2
   first
    |exact EqAt.bool_list _ hp2 hu
    |(have q:=EqAt.bool_list (A:=A) (s:=s) _ hp2 hu;simpa[aN,aO,aP,aQ,aR,aL,aK] using q)
 | int a=>
  obtain⟨t1,rfl⟩:=h1
  cases e with
  | non=>
   obtain rfl:=h2
   first
    |exact EqAt.int_none _ _
    |(have q:=EqAt.int_none (A:=A) (s:=s) _ _;simpa[aN,aO,aP,aQ,aR,aL,aK] using q)
  | bl b=>
   obtain rfl:=h2
   first
    |exact EqAt.int_bool _ _ _
    |(have q:=EqAt.int_bool (A:=A) (s:=s) _ _ _;simpa[aN,aO,aP,aQ,aR,aL,aK] using q)
  | int b=>
   obtain⟨t2,rfl⟩:=h2
   first
    |exact EqAt.int_int _ _ _ _
    |(have q:=EqAt.int_int (A:=A) (s:=s) _ _ _ _;simpa[aN,aO,aP,aQ,aR,aL,aK] using q)
  | str b=>
   obtain⟨t2,rfl⟩:=h2
   first
    |exact EqAt.int_str _ _ _ _
    |(have q:=EqAt.int_str (A:=A) (s:=s) _ _ _ _;simpa[aN,aO,aP,aQ,aR,aL,aK] using q)
  | tup es=>
   obtain⟨p2,ys,jts,rfl,hq2,v2,hp2,r2⟩:=h2
   first
    |exact EqAt.int_tuple _ _ hp2 hu
    |(have q:=EqAt.int_tuple (A:=A) (s:=s) _ _ hp2 hu;simpa[aN,aO,aP,aQ,aR,aL,aK] using q)
  | lst es=>
   obtain⟨p2,ys,jts,rfl,hq2,v2,hp2,r2⟩:=h2
   first
    |exact EqAt.int_list _ _ hp2 hu
    |(have q:=EqAt.int_list (A:=A) (s:=s) _ _ hp2 hu;simpa[aN,aO,aP,aQ,aR,aL,aK] using q)
 | str a=>
  obtain⟨t1,rfl⟩:=h1
  cases e with
  | non=>
   obtain rfl:=h2
   first
    |exact EqAt.str_none _ _
    |(have q:=EqAt.str_none (A:=A) (s:=s) _ _;simpa[aN,aO,aP,aQ,aR,aL,aK] using q)
  | bl b=>
   obtain rfl:=h2
   first
    |exact EqAt.str_bool _ _ _
    |(have q:=EqAt.str_bool (A:=A) (s:=s) _ _ _;simpa[aN,aO,aP,aQ,aR,aL,aK] using q)
  | int b=>
   obtain⟨t2,rfl⟩:=h2
   first
    |exact EqAt.str_int _ _ _ _
    |(have q:=EqAt.str_int (A:=A) (s:=s) _ _ _ _;simpa[aN,aO,aP,aQ,aR,aL,aK] using q)
  | str b=>
   obtain⟨t2,rfl⟩:=h2
   first
    |exact EqAt.str_str _ _ _ _
    |(have q:=EqAt.str_str (A:=A) (s:=s) _ _ _ _;simpa[aN,aO,aP,aQ,aR,aL,aK] using q)
  | tup es=>
   obtain⟨p2,ys,jts,rfl,hq2,v2,hp2,r2⟩:=h2
   first
    |exact EqAt.str_tuple _ _ hp2 hu
    |(have q:=EqAt.str_tuple (A:=A) (s:=s) _ _ hp2 hu;simpa[aN,aO,aP,aQ,aR,aL,aK] using q)
  | lst es=>
   obtain⟨p2,ys,jts,rfl,hq2,v2,hp2,r2⟩:=h2
   first
    |exact EqAt.str_list _ _ hp2 hu
    |(have q:=EqAt.str_list (A:=A) (s:=s) _ _ hp2 hu;simpa[aN,aO,aP,aQ,aR,aL,aK] using q)
 | tup ds=>
  obtain⟨p1,xs,its,rfl,hq1,v1,hp1,r1⟩:=h1
  cases e with
  | non=>
   obtain rfl:=h2
   first
    |exact EqAt.tuple_none hp1 hu
    |(have q:=EqAt.tuple_none (A:=A) (s:=s) hp1 hu;simpa[aN,aO,aP,aQ,aR,aL,aK] using q)
  | bl b=>
   obtain rfl:=h2
   first
    |exact EqAt.tuple_bool _ hp1 hu
    |(have q:=EqAt.tuple_bool (A:=A) (s:=s) _ hp1 hu;simpa[aN,aO,aP,aQ,aR,aL,aK] using q)
  | int b=>
   obtain⟨t2,rfl⟩:=h2
   first
    |exact EqAt.tuple_int _ _ hp1 hu
    |(have q:=EqAt.tuple_int (A:=A) (s:=s) _ _ hp1 hu;simpa[aN,aO,aP,aQ,aR,aL,aK] using q)
  | str b=>
   obtain⟨t2,rfl⟩:=h2
   first
    |exact EqAt.tuple_str _ _ hp1 hu
    |(have q:=EqAt.tuple_str (A:=A) (s:=s) _ _ hp1 hu;simpa[aN,aO,aP,aQ,aR,aL,aK] using q)
  | tup es=>
   obtain⟨p2,ys,jts,rfl,hq2,v2,hp2,r2⟩:=h2
   by_cases hne:p1=p2
   ·subst hne
    cases I.tuple_inj hq1 hq2
    rw[aL,aZ.inj I ds es xs r1 r2,sJ]
    exact EqAt.same _
   ·have q:=EqAt.of_refs hne (RcAt.tuples hp1 hp2 hu (qH r1 r2 v1 v2 ih))
    simp only[List.size_toArray] at q
    rw[Jc (r1.length.trans v1.length) (r2.length.trans v2.length)] at q
    rw[aL];exact q
  | lst es=>
   obtain⟨p2,ys,jts,rfl,hq2,v2,hp2,r2⟩:=h2
   first
    |exact EqAt.tuple_list hp1 hp2 hu
    |(have q:=EqAt.tuple_list (A:=A) (s:=s) hp1 hp2 hu;simpa[aN,aO,aP,aQ,aR,aL,aK] using q)
 | lst ds=>
  obtain⟨p1,xs,its,rfl,hq1,v1,hp1,r1⟩:=h1
  cases e with
  | non=>
   obtain rfl:=h2
   first
    |exact EqAt.list_none hp1 hu
    |(have q:=EqAt.list_none (A:=A) (s:=s) hp1 hu;simpa[aN,aO,aP,aQ,aR,aL,aK] using q)
  | bl b=>
   obtain rfl:=h2
   first
    |exact EqAt.list_bool _ hp1 hu
    |(have q:=EqAt.list_bool (A:=A) (s:=s) _ hp1 hu;simpa[aN,aO,aP,aQ,aR,aL,aK] using q)
  | int b=>
   obtain⟨t2,rfl⟩:=h2
   first
    |exact EqAt.list_int _ _ hp1 hu
    |(have q:=EqAt.list_int (A:=A) (s:=s) _ _ hp1 hu;simpa[aN,aO,aP,aQ,aR,aL,aK] using q)
  | str b=>
   obtain⟨t2,rfl⟩:=h2
   first
    |exact EqAt.list_str _ _ hp1 hu
    |(have q:=EqAt.list_str (A:=A) (s:=s) _ _ hp1 hu;simpa[aN,aO,aP,aQ,aR,aL,aK] using q)
  | tup es=>
   obtain⟨p2,ys,jts,rfl,hq2,v2,hp2,r2⟩:=h2
   first
    |exact EqAt.list_tuple hp1 hp2 hu
    |(have q:=EqAt.list_tuple (A:=A) (s:=s) hp1 hp2 hu;simpa[aN,aO,aP,aQ,aR,aL,aK] using q)
  | lst es=>
   obtain⟨p2,ys,jts,rfl,hq2,v2,hp2,r2⟩:=h2
   by_cases hne:p1=p2
   ·subst hne
    cases I.list_inj hq1 hq2
    rw[aK,aZ.inj I ds es xs r1 r2,sJ]
    exact EqAt.same _
   ·by_cases hz:ds.length=es.length
    ·have q:=EqAt.of_refs hne (RcAt.lists hp1 hp2 (by simp only[List.size_toArray];rw[<-v1.length,<-v2.length,<-r1.length,<-r2.length];exact hz) hu (qH r1 r2 v1 v2 ih))
     rw[List.size_toArray,<-v1.length,<-r1.length,<-u6 hz] at q
     rw[aK];exact q
    ·rw[aK,uZ hz]
     exact EqAt.of_refs hne (RcAt.lists_lengths hp1 hp2 (by simp only[List.size_toArray];rw[<-v1.length,<-v2.length,<-r1.length,<-r2.length];simpa using hz) hu)
theorem afh (I:Inv X pins σ H s) {A:Around} (hu:A.units < cLine) {d e:D} {u u':Value} (h1:Lk X O H s d u) (h2:Lk X O' H s e u')
  (ih:∀c∈(match d with | .tup ds=>ds | .lst ds=>ds |_=>[]),∀(e:D) (v w:V) (u u':Value),Rep X.K O H c v->Rep X.K O' H e w->RelV v u->RelV w u'->EqAt A.in1 s u u' (gk c e)):RcAt A s u u' (gk d e):=by
 cases d with
 | non =>
  obtain rfl:=h1
  cases e with
  | non=>
   obtain rfl:=h2
   exact RcAt.none_none
  | bl b=>
   obtain rfl:=h2
   first
    |exact RcAt.none_bool _
    |(have q:=RcAt.none_bool (A:=A) (s:=s) _;simpa[aN,aO,aP,aQ,aR,aL,aK] using q)
  | int b=>
   obtain⟨t2,rfl⟩:=h2
   first
    |exact RcAt.none_int _ _
    |(have q:=RcAt.none_int (A:=A) (s:=s) _ _;simpa[aN,aO,aP,aQ,aR,aL,aK] using q)
  | str b=>
   obtain⟨t2,rfl⟩:=h2
   first
    |exact RcAt.none_str _ _
    |(have q:=RcAt.none_str (A:=A) (s:=s) _ _;simpa[aN,aO,aP,aQ,aR,aL,aK] using q)
  | tup es=>
   obtain⟨p2,ys,jts,rfl,hq2,v2,hp2,r2⟩:=h2
   first
    |exact RcAt.none_tuple hp2 hu
    |(have q:=RcAt.none_tuple (A:=A) (s:=s) hp2 hu;simpa[aN,aO,aP,aQ,aR,aL,aK] using q)
  | lst es=>
   obtain⟨p2,ys,jts,rfl,hq2,v2,hp2,r2⟩:=h2
   first
    |exact RcAt.none_list hp2 hu
    |(have q:=RcAt.none_list (A:=A) (s:=s) hp2 hu;simpa[aN,aO,aP,aQ,aR,aL,aK] using q)
 | bl a=>
  obtain rfl:=h1
  cases e with
  | non=>
   obtain rfl:=h2
   first
    |exact RcAt.bool_none _
    |(have q:=RcAt.bool_none (A:=A) (s:=s) _;simpa[aN,aO,aP,aQ,aR,aL,aK] using q)
  | bl b=>
   obtain rfl:=h2
   first
    |exact RcAt.bool_bool _ _
    |(have q:=RcAt.bool_bool (A:=A) (s:=s) _ _;simpa[aN,aO,aP,aQ,aR,aL,aK] using q)
  | int b=>
   obtain⟨t2,rfl⟩:=h2
   first
    |exact RcAt.bool_int _ _ _
    |(have q:=RcAt.bool_int (A:=A) (s:=s) _ _ _;simpa[aN,aO,aP,aQ,aR,aL,aK] using q)
  | str b=>
   obtain⟨t2,rfl⟩:=h2
   first
    |exact RcAt.bool_str _ _ _
    |(have q:=RcAt.bool_str (A:=A) (s:=s) _ _ _;simpa[aN,aO,aP,aQ,aR,aL,aK] using q)
  | tup es=>
   obtain⟨p2,ys,jts,rfl,hq2,v2,hp2,r2⟩:=h2
   first
    |exact RcAt.bool_tuple _ hp2 hu
    |(have q:=RcAt.bool_tuple (A:=A) (s:=s) _ hp2 hu;simpa[aN,aO,aP,aQ,aR,aL,aK] using q)
  | lst es=>
   obtain⟨p2,ys,jts,rfl,hq2,v2,hp2,r2⟩:=h2
   first
    |exact RcAt.bool_list _ hp2 hu
    |(have q:=RcAt.bool_list (A:=A) (s:=s) _ hp2 hu;simpa[aN,aO,aP,aQ,aR,aL,aK] using q)
 | int a=>
  obtain⟨t1,rfl⟩:=h1
  cases e with
  | non=>
   obtain rfl:=h2
   first
    |exact RcAt.int_none _ _
    |(have q:=RcAt.int_none (A:=A) (s:=s) _ _;simpa[aN,aO,aP,aQ,aR,aL,aK] using q)
  | bl b=>
   obtain rfl:=h2
   first
    |exact RcAt.int_bool _ _ _
    |(have q:=RcAt.int_bool (A:=A) (s:=s) _ _ _;simpa[aN,aO,aP,aQ,aR,aL,aK] using q)
  | int b=>
   obtain⟨t2,rfl⟩:=h2
   first
    |exact RcAt.int_int _ _ _ _
    |(have q:=RcAt.int_int (A:=A) (s:=s) _ _ _ _;simpa[aN,aO,aP,aQ,aR,aL,aK] using q)
  | str b=>
   obtain⟨t2,rfl⟩:=h2
   first
    |exact RcAt.int_str _ _ _ _
    |(have q:=RcAt.int_str (A:=A) (s:=s) _ _ _ _;simpa[aN,aO,aP,aQ,aR,aL,aK] using q)
  | tup es=>
   obtain⟨p2,ys,jts,rfl,hq2,v2,hp2,r2⟩:=h2
   first
    |exact RcAt.int_tuple _ _ hp2 hu
    |(have q:=RcAt.int_tuple (A:=A) (s:=s) _ _ hp2 hu;simpa[aN,aO,aP,aQ,aR,aL,aK] using q)
  | lst es=>
   obtain⟨p2,ys,jts,rfl,hq2,v2,hp2,r2⟩:=h2
   first
    |exact RcAt.int_list _ _ hp2 hu
    |(have q:=RcAt.int_list (A:=A) (s:=s) _ _ hp2 hu;simpa[aN,aO,aP,aQ,aR,aL,aK] using q)
 | str a=>
  obtain⟨t1,rfl⟩:=h1
  cases e with
  | non=>
   obtain rfl:=h2
   first
    |exact RcAt.str_none _ _
    |(have q:=RcAt.str_none (A:=A) (s:=s) _ _;simpa[aN,aO,aP,aQ,aR,aL,aK] using q)
  | bl b=>
   obtain rfl:=h2
   first
    |exact RcAt.str_bool _ _ _
    |(have q:=RcAt.str_bool (A:=A) (s:=s) _ _ _;simpa[aN,aO,aP,aQ,aR,aL,aK] using q)
  | int b=>
   obtain⟨t2,rfl⟩:=h2
   first
    |exact RcAt.str_int _ _ _ _
    |(have q:=RcAt.str_int (A:=A) (s:=s) _ _ _ _;simpa[aN,aO,aP,aQ,aR,aL,aK] using q)
  | str b=>
   obtain⟨t2,rfl⟩:=h2
   first
    |exact RcAt.str_str _ _ _ _
    |(have q:=RcAt.str_str (A:=A) (s:=s) _ _ _ _;simpa[aN,aO,aP,aQ,aR,aL,aK] using q)
  | tup es=>
   obtain⟨p2,ys,jts,rfl,hq2,v2,hp2,r2⟩:=h2
   first
    |exact RcAt.str_tuple _ _ hp2 hu
    |(have q:=RcAt.str_tuple (A:=A) (s:=s) _ _ hp2 hu;simpa[aN,aO,aP,aQ,aR,aL,aK] using q)
  | lst es=>
   obtain⟨p2,ys,jts,rfl,hq2,v2,hp2,r2⟩:=h2
   first
    |exact RcAt.str_list _ _ hp2 hu
    |(have q:=RcAt.str_list (A:=A) (s:=s) _ _ hp2 hu;simpa[aN,aO,aP,aQ,aR,aL,aK] using q)
 | tup ds=>
  obtain⟨p1,xs,its,rfl,hq1,v1,hp1,r1⟩:=h1
  cases e with
  | non=>
   obtain rfl:=h2
   first
    |exact RcAt.tuple_none hp1 hu
    |(have q:=RcAt.tuple_none (A:=A) (s:=s) hp1 hu;simpa[aN,aO,aP,aQ,aR,aL,aK] using q)
  | bl b=>
   obtain rfl:=h2
   first
    |exact RcAt.tuple_bool _ hp1 hu
    |(have q:=RcAt.tuple_bool (A:=A) (s:=s) _ hp1 hu;simpa[aN,aO,aP,aQ,aR,aL,aK] using q)
  | int b=>
   obtain⟨t2,rfl⟩:=h2
   first
    |exact RcAt.tuple_int _ _ hp1 hu
    |(have q:=RcAt.tuple_int (A:=A) (s:=s) _ _ hp1 hu;simpa[aN,aO,aP,aQ,aR,aL,aK] using q)
  | str b=>
   obtain⟨t2,rfl⟩:=h2
   first
    |exact RcAt.tuple_str _ _ hp1 hu
    |(have q:=RcAt.tuple_str (A:=A) (s:=s) _ _ hp1 hu;simpa[aN,aO,aP,aQ,aR,aL,aK] using q)
  | tup es=>
   obtain⟨p2,ys,jts,rfl,hq2,v2,hp2,r2⟩:=h2
   have q:=RcAt.tuples hp1 hp2 hu (qH r1 r2 v1 v2 ih)
   simp only[List.size_toArray] at q
   rw[Jc (r1.length.trans v1.length) (r2.length.trans v2.length)] at q
   rw[aL];exact q
  | lst es=>
   obtain⟨p2,ys,jts,rfl,hq2,v2,hp2,r2⟩:=h2
   first
    |exact RcAt.tuple_list hp1 hp2 hu
    |(have q:=RcAt.tuple_list (A:=A) (s:=s) hp1 hp2 hu;simpa[aN,aO,aP,aQ,aR,aL,aK] using q)
 | lst ds=>
  obtain⟨p1,xs,its,rfl,hq1,v1,hp1,r1⟩:=h1
  cases e with
  | non=>
   obtain rfl:=h2
   first
    |exact RcAt.list_none hp1 hu
    |(have q:=RcAt.list_none (A:=A) (s:=s) hp1 hu;simpa[aN,aO,aP,aQ,aR,aL,aK] using q)
  | bl b=>
   obtain rfl:=h2
   first
    |exact RcAt.list_bool _ hp1 hu
    |(have q:=RcAt.list_bool (A:=A) (s:=s) _ hp1 hu;simpa[aN,aO,aP,aQ,aR,aL,aK] using q)
  | int b=>
   obtain⟨t2,rfl⟩:=h2
   first
    |exact RcAt.list_int _ _ hp1 hu
    |(have q:=RcAt.list_int (A:=A) (s:=s) _ _ hp1 hu;simpa[aN,aO,aP,aQ,aR,aL,aK] using q)
  | str b=>
   obtain⟨t2,rfl⟩:=h2
   first
    |exact RcAt.list_str _ _ hp1 hu
    |(have q:=RcAt.list_str (A:=A) (s:=s) _ _ hp1 hu;simpa[aN,aO,aP,aQ,aR,aL,aK] using q)
  | tup es=>
   obtain⟨p2,ys,jts,rfl,hq2,v2,hp2,r2⟩:=h2
   first
    |exact RcAt.list_tuple hp1 hp2 hu
    |(have q:=RcAt.list_tuple (A:=A) (s:=s) hp1 hp2 hu;simpa[aN,aO,aP,aQ,aR,aL,aK] using q)
  | lst es=>
   obtain⟨p2,ys,jts,rfl,hq2,v2,hp2,r2⟩:=h2
   by_cases hz:ds.length=es.length
   ·have q:=RcAt.lists hp1 hp2 (by simp only[List.size_toArray];rw[<-v1.length,<-v2.length,<-r1.length,<-r2.length];exact hz) hu (qH r1 r2 v1 v2 ih)
    rw[List.size_toArray,<-v1.length,<-r1.length,<-u6 hz] at q
    rw[aK];exact q
   ·rw[aK,uZ hz]
    exact RcAt.lists_lengths hp1 hp2 (by simp only[List.size_toArray];rw[<-v1.length,<-v2.length,<-r1.length,<-r2.length];simpa using hz) hu
theorem afi (I:Inv X pins σ H s) {A:Around} (hu:A.units < cLine) {d e:D} {u u':Value} (h1:Lk X O H s d u) (h2:Lk X O' H s e u')
  (ih:∀c∈(match d with | .tup ds=>ds | .lst ds=>ds |_=>[]),∀(e:D) (v w:V) (u u':Value),Rep X.K O H c v->Rep X.K O' H e w->RelV v u->RelV w u'->EqAt A.in1 s u u' (gk c e)):RcNeAt A s u u' (!gk d e):=by
 cases d with
 | non =>
  obtain rfl:=h1
  cases e with
  | non=>
   obtain rfl:=h2
   exact RcNeAt.none_none
  | bl b=>
   obtain rfl:=h2
   first
    |exact RcNeAt.none_bool _
    |(have q:=RcNeAt.none_bool (A:=A) (s:=s) _;simpa[aN,aO,aP,aQ,aR,aL,aK] using q)
  | int b=>
   obtain⟨t2,rfl⟩:=h2
   first
    |exact RcNeAt.none_int _ _
    |(have q:=RcNeAt.none_int (A:=A) (s:=s) _ _;simpa[aN,aO,aP,aQ,aR,aL,aK] using q)
  | str b=>
   obtain⟨t2,rfl⟩:=h2
   first
    |exact RcNeAt.none_str _ _
    |(have q:=RcNeAt.none_str (A:=A) (s:=s) _ _;simpa[aN,aO,aP,aQ,aR,aL,aK] using q)
  | tup es=>
   obtain⟨p2,ys,jts,rfl,hq2,v2,hp2,r2⟩:=h2
   first
    |exact RcNeAt.none_tuple hp2 hu
    |(have q:=RcNeAt.none_tuple (A:=A) (s:=s) hp2 hu;simpa[aN,aO,aP,aQ,aR,aL,aK] using q)
  | lst es=>
   obtain⟨p2,ys,jts,rfl,hq2,v2,hp2,r2⟩:=h2
   first
    |exact RcNeAt.none_list hp2 hu
    |(have q:=RcNeAt.none_list (A:=A) (s:=s) hp2 hu;simpa[aN,aO,aP,aQ,aR,aL,aK] using q)
 | bl a=>
  obtain rfl:=h1
  cases e with
  | non=>
   obtain rfl:=h2
   first
    |exact RcNeAt.bool_none _
    |(have q:=RcNeAt.bool_none (A:=A) (s:=s) _;simpa[aN,aO,aP,aQ,aR,aL,aK] using q)
  | bl b=>
   obtain rfl:=h2
   first
    |exact RcNeAt.bool_bool _ _
    |(have q:=RcNeAt.bool_bool (A:=A) (s:=s) _ _;simpa[aN,aO,aP,aQ,aR,aL,aK] using q)
  | int b=>
   obtain⟨t2,rfl⟩:=h2
   first
    |exact RcNeAt.bool_int _ _ _
    |(have q:=RcNeAt.bool_int (A:=A) (s:=s) _ _ _;simpa[aN,aO,aP,aQ,aR,aL,aK] using q)
  | str b=>
   obtain⟨t2,rfl⟩:=h2
   first
    |exact RcNeAt.bool_str _ _ _
    |(have q:=RcNeAt.bool_str (A:=A) (s:=s) _ _ _;simpa[aN,aO,aP,aQ,aR,aL,aK] using q)
  | tup es=>
   obtain⟨p2,ys,jts,rfl,hq2,v2,hp2,r2⟩:=h2
   first
    |exact RcNeAt.bool_tuple _ hp2 hu
    |(have q:=RcNeAt.bool_tuple (A:=A) (s:=s) _ hp2 hu;simpa[aN,aO,aP,aQ,aR,aL,aK] using q)
  | lst es=>
   obtain⟨p2,ys,jts,rfl,hq2,v2,hp2,r2⟩:=h2
   first
    |exact RcNeAt.bool_list _ hp2 hu
    |(have q:=RcNeAt.bool_list (A:=A) (s:=s) _ hp2 hu;simpa[aN,aO,aP,aQ,aR,aL,aK] using q)
 | int a=>
  obtain⟨t1,rfl⟩:=h1
  cases e with
  | non=>
   obtain rfl:=h2
   first
    |exact RcNeAt.int_none _ _
    |(have q:=RcNeAt.int_none (A:=A) (s:=s) _ _;simpa[aN,aO,aP,aQ,aR,aL,aK] using q)
  | bl b=>
   obtain rfl:=h2
   first
    |exact RcNeAt.int_bool _ _ _
    |(have q:=RcNeAt.int_bool (A:=A) (s:=s) _ _ _;simpa[aN,aO,aP,aQ,aR,aL,aK] using q)
  | int b=>
   obtain⟨t2,rfl⟩:=h2
   first
    |exact RcNeAt.int_int _ _ _ _
    |(have q:=RcNeAt.int_int (A:=A) (s:=s) _ _ _ _;simpa[aN,aO,aP,aQ,aR,aL,aK] using q)
  | str b=>
   obtain⟨t2,rfl⟩:=h2
   first
    |exact RcNeAt.int_str _ _ _ _
    |(have q:=RcNeAt.int_str (A:=A) (s:=s) _ _ _ _;simpa[aN,aO,aP,aQ,aR,aL,aK] using q)
  | tup es=>
   obtain⟨p2,ys,jts,rfl,hq2,v2,hp2,r2⟩:=h2
   first
    |exact RcNeAt.int_tuple _ _ hp2 hu
    |(have q:=RcNeAt.int_tuple (A:=A) (s:=s) _ _ hp2 hu;simpa[aN,aO,aP,aQ,aR,aL,aK] using q)
  | lst es=>
   obtain⟨p2,ys,jts,rfl,hq2,v2,hp2,r2⟩:=h2
   first
    |exact RcNeAt.int_list _ _ hp2 hu
    |(have q:=RcNeAt.int_list (A:=A) (s:=s) _ _ hp2 hu;simpa[aN,aO,aP,aQ,aR,aL,aK] using q)
 | str a=>
  obtain⟨t1,rfl⟩:=h1
  cases e with
  | non=>
   obtain rfl:=h2
   first
    |exact RcNeAt.str_none _ _
    |(have q:=RcNeAt.str_none (A:=A) (s:=s) _ _;simpa[aN,aO,aP,aQ,aR,aL,aK] using q)
  | bl b=>
   obtain rfl:=h2
   first
    |exact RcNeAt.str_bool _ _ _
    |(have q:=RcNeAt.str_bool (A:=A) (s:=s) _ _ _;simpa[aN,aO,aP,aQ,aR,aL,aK] using q)
  | int b=>
   obtain⟨t2,rfl⟩:=h2
   first
    |exact RcNeAt.str_int _ _ _ _
    |(have q:=RcNeAt.str_int (A:=A) (s:=s) _ _ _ _;simpa[aN,aO,aP,aQ,aR,aL,aK] using q)
  | str b=>
   obtain⟨t2,rfl⟩:=h2
   first
    |exact RcNeAt.str_str _ _ _ _
    |(have q:=RcNeAt.str_str (A:=A) (s:=s) _ _ _ _;simpa[aN,aO,aP,aQ,aR,aL,aK] using q)
  | tup es=>
   obtain⟨p2,ys,jts,rfl,hq2,v2,hp2,r2⟩:=h2
   first
    |exact RcNeAt.str_tuple _ _ hp2 hu
    |(have q:=RcNeAt.str_tuple (A:=A) (s:=s) _ _ hp2 hu;simpa[aN,aO,aP,aQ,aR,aL,aK] using q)
  | lst es=>
   obtain⟨p2,ys,jts,rfl,hq2,v2,hp2,r2⟩:=h2
   first
    |exact RcNeAt.str_list _ _ hp2 hu
    |(have q:=RcNeAt.str_list (A:=A) (s:=s) _ _ hp2 hu;simpa[aN,aO,aP,aQ,aR,aL,aK] using q)
 | tup ds=>
  obtain⟨p1,xs,its,rfl,hq1,v1,hp1,r1⟩:=h1
  cases e with
  | non=>
   obtain rfl:=h2
   first
    |exact RcNeAt.tuple_none hp1 hu
    |(have q:=RcNeAt.tuple_none (A:=A) (s:=s) hp1 hu;simpa[aN,aO,aP,aQ,aR,aL,aK] using q)
  | bl b=>
   obtain rfl:=h2
   first
    |exact RcNeAt.tuple_bool _ hp1 hu
    |(have q:=RcNeAt.tuple_bool (A:=A) (s:=s) _ hp1 hu;simpa[aN,aO,aP,aQ,aR,aL,aK] using q)
  | int b=>
   obtain⟨t2,rfl⟩:=h2
   first
    |exact RcNeAt.tuple_int _ _ hp1 hu
    |(have q:=RcNeAt.tuple_int (A:=A) (s:=s) _ _ hp1 hu;simpa[aN,aO,aP,aQ,aR,aL,aK] using q)
  | str b=>
   obtain⟨t2,rfl⟩:=h2
   first
    |exact RcNeAt.tuple_str _ _ hp1 hu
    |(have q:=RcNeAt.tuple_str (A:=A) (s:=s) _ _ hp1 hu;simpa[aN,aO,aP,aQ,aR,aL,aK] using q)
  | tup es=>
   obtain⟨p2,ys,jts,rfl,hq2,v2,hp2,r2⟩:=h2
   have q:=RcNeAt.tuples hp1 hp2 hu (qH r1 r2 v1 v2 ih)
   simp only[List.size_toArray] at q
   rw[Jc (r1.length.trans v1.length) (r2.length.trans v2.length)] at q
   rw[aL];exact q
  | lst es=>
   obtain⟨p2,ys,jts,rfl,hq2,v2,hp2,r2⟩:=h2
   first
    |exact RcNeAt.tuple_list hp1 hp2 hu
    |(have q:=RcNeAt.tuple_list (A:=A) (s:=s) hp1 hp2 hu;simpa[aN,aO,aP,aQ,aR,aL,aK] using q)
 | lst ds=>
  obtain⟨p1,xs,its,rfl,hq1,v1,hp1,r1⟩:=h1
  cases e with
  | non=>
   obtain rfl:=h2
   first
    |exact RcNeAt.list_none hp1 hu
    |(have q:=RcNeAt.list_none (A:=A) (s:=s) hp1 hu;simpa[aN,aO,aP,aQ,aR,aL,aK] using q)
  | bl b=>
   obtain rfl:=h2
   first
    |exact RcNeAt.list_bool _ hp1 hu
    |(have q:=RcNeAt.list_bool (A:=A) (s:=s) _ hp1 hu;simpa[aN,aO,aP,aQ,aR,aL,aK] using q)
  | int b=>
   obtain⟨t2,rfl⟩:=h2
   first
    |exact RcNeAt.list_int _ _ hp1 hu
    |(have q:=RcNeAt.list_int (A:=A) (s:=s) _ _ hp1 hu;simpa[aN,aO,aP,aQ,aR,aL,aK] using q)
  | str b=>
   obtain⟨t2,rfl⟩:=h2
   first
    |exact RcNeAt.list_str _ _ hp1 hu
    |(have q:=RcNeAt.list_str (A:=A) (s:=s) _ _ hp1 hu;simpa[aN,aO,aP,aQ,aR,aL,aK] using q)
  | tup es=>
   obtain⟨p2,ys,jts,rfl,hq2,v2,hp2,r2⟩:=h2
   first
    |exact RcNeAt.list_tuple hp1 hp2 hu
    |(have q:=RcNeAt.list_tuple (A:=A) (s:=s) hp1 hp2 hu;simpa[aN,aO,aP,aQ,aR,aL,aK] using q)
  | lst es=>
   obtain⟨p2,ys,jts,rfl,hq2,v2,hp2,r2⟩:=h2
   by_cases hz:ds.length=es.length
   ·have q:=RcNeAt.lists hp1 hp2 (by simp only[List.size_toArray];rw[<-v1.length,<-v2.length,<-r1.length,<-r2.length];exact hz) hu (qH r1 r2 v1 v2 ih)
    rw[List.size_toArray,<-v1.length,<-r1.length,<-u6 hz] at q
    rw[aK];exact q
   ·rw[aK,uZ hz]
    exact RcNeAt.lists_lengths hp1 hp2 (by simp only[List.size_toArray];rw[<-v1.length,<-v2.length,<-r1.length,<-r2.length];simpa using hz) hu
theorem TY (I:Inv X pins σ H s):∀(n:Nat) (A:Around) (d:D),dep d<=n->A.units+n < cLine->∀(e:D) (v w:V) (u u':Value),Rep X.K O H d v->Rep X.K O' H e w->RelV v u->RelV w u'->EqAt A s u u' (gk d e):=by
 intro n
 induction n with
 | zero=>
  intro A d hd hu e v w u u' r1 r2 q1 q2
  refine TX I (by assumption) (wW I r1 q1) (wW I r2 q2) λ c hc=>?_
  cases d with
  |tup ds=>rw[jr] at hd;exact (aiq hd).elim
  |lst ds=>rw[jt] at hd;exact (aiq hd).elim
  |_=>simp at hc
 | succ n ihn=>
  intro A d hd hu e v w u u' r1 r2 q1 q2
  refine TX I (by exact anI hu) (wW I r1 q1) (wW I r2 q2) λ c hc=>?_
  have hc':dep c<=n:=by
   cases d with
   |tup ds=>rw[jr] at hd;have:=qG (ds:=ds) hc;exact air hd this
   |lst ds=>rw[jt] at hd;have:=qG (ds:=ds) hc;exact air hd this
   |_=>simp at hc
  exact ihn A.in1 c hc' (by show A.units+1+n < cLine;exact anJ hu)
end
noncomputable def nW (d e:D):R D:=if dep d<=40 then .ok (.bl (gk d e)) else .bad
noncomputable def jW (d e:D):R D:=if dep d<=40 then .ok (.bl (!gk d e)) else .bad
section
variable {X:Cx}
theorem aiV (hu:X.A.units+60 < cLine):OpR X (compareOp .Eq) (λ x y H Q=>∃O O' d e,Rep X.K O H d x/\Rep X.K O' H e y/\dep d<=40/\Q (.bl (gk d e)) H):=by
 intro pins s σ H x y v u Q I rx ry h
 refine bc λ zQ=>?_
 obtain⟨O,O',d,e,r1,r2,hd,q⟩:=h
 apply zQ;clear zQ
 refine afh I (show X.A.units < cLine by exact ais hu) (wW I r1 rx) (wW I r2 ry) (λ c hc=>?_) X.prog X.w X.xe _ ⟨.bl _,H,I,rfl,q⟩
 have hc':dep c<=40:=by
  refine bc λ zQ=>?_
  cases d with
  |tup ds=>apply zQ;clear zQ;rw[jr] at hd;have:=qG (ds:=ds) hc;exact aaE hd this
  |lst ds=>apply zQ;clear zQ;rw[jt] at hd;have:=qG (ds:=ds) hc;exact aaE hd this
  |_=>apply zQ;clear zQ;simp at hc
 exact TY I 40 X.A.in1 c hc' (by show X.A.units+1+40 < cLine;exact ait hu)
theorem aiW (hu:X.A.units+60 < cLine):OpR X (compareOp .NotEq) (λ x y H Q=>∃O O' d e,Rep X.K O H d x/\Rep X.K O' H e y/\dep d<=40/\Q (.bl (!gk d e)) H):=by
 intro pins s σ H x y v u Q I rx ry h
 refine bc λ zQ=>?_
 obtain⟨O,O',d,e,r1,r2,hd,q⟩:=h
 apply zQ;clear zQ
 refine afi I (show X.A.units < cLine by exact ais hu) (wW I r1 rx) (wW I r2 ry) (λ c hc=>?_) X.prog X.w X.xe _ ⟨.bl _,H,I,rfl,q⟩
 have hc':dep c<=40:=by
  refine bc λ zQ=>?_
  cases d with
  |tup ds=>apply zQ;clear zQ;rw[jr] at hd;have:=qG (ds:=ds) hc;exact aaE hd this
  |lst ds=>apply zQ;clear zQ;rw[jt] at hd;have:=qG (ds:=ds) hc;exact aaE hd this
  |_=>apply zQ;clear zQ;simp at hc
 exact TY I 40 X.A.in1 c hc' (by show X.A.units+1+40 < cLine;exact ait hu)
theorem pO (hu:X.A.units+60 < cLine):kJ X (compareOp .Eq) nW:=by
 refine⟨_,aiV hu,λ ρ O σ H Q x y dx dy j rx ry h=>?_⟩
 unfold nW at h
 by_cases hd:dep dx<=40
 ·rw[if_pos hd] at h;exact⟨O,O,dx,dy,rx,ry,hd,fin h (gb _)⟩
 ·rw[if_neg hd] at h;exact h.elim
theorem wX (hu:X.A.units+60 < cLine):kJ X (compareOp .NotEq) jW:=by
 refine⟨_,aiW hu,λ ρ O σ H Q x y dx dy j rx ry h=>?_⟩
 unfold jW at h
 by_cases hd:dep dx<=40
 ·rw[if_pos hd] at h;exact⟨O,O,dx,dy,rx,ry,hd,fin h (gb _)⟩
 ·rw[if_neg hd] at h;exact h.elim
end
end Pu
namespace Pu
open PySem PySem.Spec L2
open PyProof.Rows hiding St
section
variable {prog:Program} {w:World} {A:Around} {E:Value->Shared->Prop} {s:Shared}
end
section
variable {X:Cx} {e:Expr} {te:TE} {pos p2 p3 p4:Pos} {j:Nat} {f:aq->R D}
theorem Vals.rev {xs:List V} {us:List Value} (h:Vals xs us):Vals xs.reverse us.reverse:=by
 induction h with
 |nil=>exact .nil
 | cons r _ ih=>
  simp only[List.reverse_cons]
  exact ih.append (.cons r .nil)
noncomputable def aoH:D->R D
 | .tup ds=> .ok (.tup ds.reverse)
 |_=> .bad
noncomputable def fY:D->D->R D
 | .int i,.int j=> .ok (.int (i+j))
 | .tup xs,.tup ys=>if 0 < xs.length/\xs.length+ys.length<=1000000 then .ok (.tup (xs++ys)) else .bad
 |_,_=> .bad
set_option tactic.hygienic true in
theorem lJ:kJ X (binaryOp .Add) fY:=by
 refine⟨_,OpR.or op_add op_catT,λ ρ O σ H Q x y dx dy j0 rx ry h=>?_⟩
 cases dx <;> cases dy <;> first
  |exact h.elim
  |skip
 ·rename_i i j
  exact .inl ⟨i,j,rx.int,ry.int,fin h (cO _)⟩
 ·rename_i xs ys
  have h:good X (rD X) O (if 0 < xs.length/\xs.length+ys.length<=1000000 then .ok (.tup (xs++ys)) else .bad) σ H Q:=h
  by_cases hc:0 < xs.length/\xs.length+ys.length<=1000000
  ·rw[if_pos hc] at h
   obtain⟨a,us,rfl,ha,r1⟩:=rx.tup
   obtain⟨b,ws,rfl,hb,r2⟩:=ry.tup
   refine .inr ⟨a,b,us,ws,rfl,rfl,ha,hb,λ z=>?_,?_,λ z=>?_,λ z l hl=>?_⟩
   ·have h1:=r1.length
    have h2:=hc.1
    rw[z] at h1
    rw[h1] at h2
    exact Nat.lt_irrefl _ h2
   ·rw[<-r1.length,<-r2.length];exact z0b hc.2 iT
   ·subst z
    have:ys=[]:=List.eq_nil_of_length_eq_zero r2.length
    subst this
    rw[List.append_nil] at h
    exact fin h (jz ha r1)
   ·exact h _ _ (Same.upd hl) (Rep.uH hl (r1.append r2))
  ·rw[if_neg hc] at h;exact h.elim
end
end Pu
namespace Pu
open PySem PySem.Spec L2
open PyProof.Rows hiding St
section
variable {K:PySem.W.Frag} {O:Addr->Prop} {H:Hp}
end
section
variable {X:Cx} {e e1 e2:Expr} {f g:aq->R D} {pos:Pos}
end
end Pu
namespace Pu
open PySem PySem.W PyProof.Rows
noncomputable def Sat {α:Type} (n:Nat) (lt:Nat->Nat->Bool):KasT α->(α->Prop)->Prop
 | .ret a,Q=>Q a
 | .ask i j k,Q=>i < n/\j < n/\Sat n lt (k (lt i j)) Q
section
variable {n:Nat} {lt:Nat->Nat->Bool}
theorem Sat.bind {α β:Type} {f:α->KasT β} {Q:β->Prop}:∀{t:KasT α},Sat n lt t (λ a=>Sat n lt (f a) Q)->Sat n lt (t.bind f) Q
 | .ret _,h=>h
 | .ask i j k,h=>⟨h.1,h.2.1,Sat.bind h.2.2⟩
theorem Sat.mono {α:Type} {Q Q':α->Prop} (w:∀a,Q a->Q' a):∀{t:KasT α},Sat n lt t Q->Sat n lt t Q'
 | .ret _,h=>w _ h
 | .ask _ _ _,h=>⟨h.1,h.2.1,Sat.mono w h.2.2⟩
theorem Sat.wp {α:Type} {cmp:Nat->Nat->(Bool->Shared->Prop)->Shared->Prop} {s:Shared} {P:α->Prop} {Q:α->Shared->Prop} (hc:∀i j C,i < n->j < n->C (lt i j) s->cmp i j C s) (hQ:∀a,P a->Q a s):
  ∀{t:KasT α},Sat n lt t P->t.kasWp cmp Q s
 | .ret _,h=>hQ _ h
 | .ask i j k,h=>hc i j _ h.1 h.2.1 (Sat.wp hc hQ h.2.2)
structure Ord (n:Nat) (lt:Nat->Nat->Bool):Prop where
 tr:∀a b c,a < n->b < n->c < n->lt a b=true->lt b c=true->lt a c=true
 tot:∀a b,a < n->b < n->a≠b->lt a b=false->lt b a=true
structure Pm (n:Nat) (p:Array Nat):Prop where
 size:p.size=n
 perm:p.toList.Perm (List.range n)
theorem Pm.bd {p:Array Nat} (h:Pm n p) {i:Nat} (hi:i < n):p.getD i 0 < n:=by
 have hs:i < p.size:=by rw[h.size];exact hi
 have:p.getD i 0=p[i]:=by simp[Array.getD,hs]
 rw[this]
 have hm:p[i]∈p.toList:=by simp
 exact List.mem_range.mp (h.perm.mem_iff.mp hm)
theorem Pm.ne {p:Array Nat} (h:Pm n p) {i j:Nat} (hi:i < n) (hj:j < n) (hij:i≠j):p.getD i 0≠p.getD j 0:=by
 have hs:i < p.size:=by rw[h.size];exact hi
 have hs2:j < p.size:=by rw[h.size];exact hj
 have e1:p.getD i 0=p.toList[i]'(by simpa using hs):=by simp[Array.getD,hs]
 have e2:p.getD j 0=p.toList[j]'(by simpa using hs2):=by simp[Array.getD,hs2]
 rw[e1,e2]
 have nd:p.toList.Nodup:=h.perm.nodup_iff.mpr List.nodup_range
 intro z
 exact hij ((List.getElem_inj nd).mp z)
theorem Pm.of {p q:Array Nat} (h:Pm n p) (w:q.Perm p):Pm n q:=
 ⟨by rw[<-h.size];exact w.size_eq,(Array.perm_iff_toList_perm.mp w).trans h.perm⟩
noncomputable def S (lt:Nat->Nat->Bool) (p:Array Nat) (k:Nat):Prop:=∀i j,i < j->j < k->lt (p.getD i 0) (p.getD j 0)=true
noncomputable def De (lt:Nat->Nat->Bool) (p:Array Nat) (k:Nat):Prop:=∀i j,i < j->j < k->lt (p.getD j 0) (p.getD i 0)=true
theorem S.one {p:Array Nat}:S lt p 1:=λ i j h1 h2=>by exact (aiu h2 h1).elim
theorem S.ext (o:Ord n lt) {p:Array Nat} (h:Pm n p) {a:Nat} (ha:1<=a) (hn:a < n) (s:S lt p a) (e:lt (p.getD (a - 1) 0) (p.getD a 0)=true):S lt p (a+1):=λ i j h1 h2=>by
 by_cases hj:j < a
 ·exact s i j h1 hj
 ·have ej:j=a:=by exact ae6 h2 hj
  subst ej
  by_cases hi:i=j - 1
  ·rw[hi];exact e
  ·exact o.tr _ _ _ (h.bd (by exact Nat.lt_trans h1 hn)) (h.bd (by exact Dg hn)) (h.bd hn) (s i (j - 1) (by exact aiw h1 hi) (by exact aiv h1)) e
theorem De.ext (o:Ord n lt) {p:Array Nat} (h:Pm n p) {a:Nat} (ha:1<=a) (hn:a < n) (s:De lt p a) (e:lt (p.getD a 0) (p.getD (a - 1) 0)=true):De lt p (a+1):=λ i j h1 h2=>by
 by_cases hj:j < a
 ·exact s i j h1 hj
 ·have ej:j=a:=by exact ae6 h2 hj
  subst ej
  by_cases hi:i=j - 1
  ·rw[hi];exact e
  ·exact o.tr _ _ _ (h.bd hn) (h.bd (by exact Dg hn)) (h.bd (by exact Nat.lt_trans h1 hn)) e (s i (j - 1) (by exact aiw h1 hi) (by exact aiv h1))
theorem MN (o:Ord n lt) {p:Array Nat} (h:Pm n p):∀(f a:Nat),1<=a->a+f<=n->S lt p a->Sat n lt (kas_asc p f a) (λ m=>a<=m/\m<=a+f/\S lt p m/\(m < a+f->lt (p.getD m 0) (p.getD (m - 1) 0)=true))
 |0,a,h1,h2,s=>⟨z0g _,z0g _,s,λ z=>absurd z (by exact Nat.lt_irrefl _)⟩
 | f +1,a,h1,h2,s=>by
  refine⟨h.bd (by exact uN h2),h.bd (by exact Iw h2),?_⟩
  cases e:lt (p.getD a 0) (p.getD (a - 1) 0) with
  |true=>exact⟨z0g _,by exact Nat.le_add_right _ _,s,λ Z=>e⟩
  | false=>
   have e':=o.tot _ _ (h.bd (by exact uN h2)) (h.bd (by exact Iw h2)) (h.ne (i:=a) (j:=a - 1) (by exact uN h2) (by exact Iw h2) (by exact aix h1)) e
   show Sat n lt (kas_asc p f (a+1)) _
   refine Sat.mono (λ m ⟨m1,m2,m3,m4⟩=>⟨by exact z0e m1,by exact ae8 m2,m3,λ z=>m4 (by exact aiy z)⟩) (MN o h f (a+1) (by exact Nat.succ_pos _) (by exact ae7 h2) (S.ext o h h1 (by exact uN h2) s e'))
theorem T3 (o:Ord n lt) {p:Array Nat} (h:Pm n p):∀(f a:Nat),1<=a->a+f<=n->De lt p a->Sat n lt (kas_desc f p a 0) (λ r=>r.1=p/\r.2.2=0/\a<=r.2.1/\r.2.1<=a+f/\De lt p r.2.1)
 |0,a,h1,h2,s=>⟨rfl,rfl,z0g _,z0g _,s⟩
 | f +1,a,h1,h2,s=>by
  refine⟨h.bd (by exact uN h2),h.bd (by exact Iw h2),?_⟩
  cases e:lt (p.getD a 0) (p.getD (a - 1) 0) with
  | true=>
   show Sat n lt (kas_desc f p (a+1) 0) _
   exact Sat.mono (λ r ⟨m1,m2,m3,m4,m5⟩=>⟨m1,m2,by exact z0e m3,by exact ae8 m4,m5⟩) (T3 o h f (a+1) (by exact Nat.succ_pos _) (by exact ae7 h2) (De.ext o h h1 (by exact uN h2) s e))
  | false=>
   have e':=o.tot _ _ (h.bd (by exact uN h2)) (h.bd (by exact Iw h2)) (h.ne (i:=a) (j:=a - 1) (by exact uN h2) (by exact Iw h2) (by exact aix h1)) e
   refine⟨h.bd (by exact Iw h2),h.bd (by exact uN h2),?_⟩
   rw[e']
   exact⟨rfl,rfl,z0g _,Nat.le_add_right _ _,s⟩
theorem Hi {p q:Array Nat} {i j:Nat} (h:p[i]?=q[j]?):p.getD i 0=q.getD j 0:=by
 rw[Array.getD_eq_getD_getElem?,Array.getD_eq_getD_getElem?,h]
theorem adg (o:Ord n lt) {p:Array Nat} (h:Pm n p) {m:Nat} (h1:1<=m) (h2:m<=n) (s:De lt p m):Sat n lt (kas_tail3 m n p) (λ r=>Pm n r.2/\1<=r.1/\r.1<=n/\S lt r.2 r.1):=by
 have hq:Pm n (kas_rev p 0 m):=h.of (mirror_perm _ _ _ _)
 have hs:S lt (kas_rev p 0 m) m:=λ i j hij hj=>by
  have g:∀k,k < m->(kas_rev p 0 m).getD k 0=p.getD (m - 1 - k) 0:=λ k hk=>by
   apply Hi
   show (mirror p 0 m ((m - 0) / 2))[k]?=_
   rw[getElem?_mirror_all (by rw[h.size];exact h2),if_pos ⟨by exact Nat.zero_le _,hk⟩]
   congr 1;exact anK
  rw[g i (by exact Nat.lt_trans hij hj),g j hj]
  exact s (m - 1 - j) (m - 1 - i) (by exact anM hj hij) (by exact anL h1)
 exact Sat.bind (Sat.mono (λ k ⟨k1,k2,k3,_⟩=>⟨hq,by exact z0d h1 k1,by exact anN k2 h2,k3⟩) (MN o hq (n - m) m h1 (by exact aiz h2) hs))
theorem adh (o:Ord n lt) {p:Array Nat} (h:Pm n p) (hn:1<=n):Sat n lt (kas_count n p) (λ r=>Pm n r.2/\1<=r.1/\r.1<=n/\S lt r.2 r.1):=by
 refine Sat.bind (Sat.mono (λ m ⟨m1,m2,m3,m4⟩=>?_) (MN o h (n - 1) 1 (z0g _) (by exact anO hn) S.one))
 by_cases e:m=n
 ·rw[if_pos (by simp[e])]
  exact⟨h,m1,by exact z0f e,m3⟩
 ·rw[if_neg (by simp[e])]
  by_cases hm:m > 1
  ·rw[if_pos hm]
   refine⟨h.bd (by assumption),h.bd (by exact anP hn m2),?_⟩
   rw[m3 0 (m - 1) (by exact anQ hm) (by exact aiA m1)]
   exact⟨h,m1,by exact anR hn m2,m3⟩
  ·rw[if_neg hm]
   have em:m=1:=by exact anS m1 hm
   subst em
   have e0:=m4 (by exact anT hn e)
   have d2:De lt p 2:=De.ext o h (a:=1) (z0g _) (by exact z0h hn e) (λ i j a1 a2=>by exact (aiu a2 a1).elim) e0
   refine Sat.bind (Sat.mono (λ r ⟨r1,r2,r3,r4,r5⟩=>?_) (T3 o h (n - (1+1)) (1+1) (by exact Nat.succ_pos _) (by exact anU hn e) d2))
   rw[if_neg (by exact anV r2),r1]
   exact adg o h (by exact z0e r3) (by exact anW hn r4 e) r5
theorem Dq (o:Ord n lt) {p:Array Nat} (h:Pm n p) {k:Nat} (hk:k < n) (s:S lt p k):∀(f l r:Nat),l<=r->r<=k->r - l<=f->(∀i,i < l->lt (p.getD i 0) (p.getD k 0)=true)->(∀i,r<=i->i < k->lt (p.getD k 0) (p.getD i 0)=true)->
  Sat n lt (kas_place p k f l r) (λ m=>m<=k/\(∀i,i < m->lt (p.getD i 0) (p.getD k 0)=true)/\∀i,m<=i->i < k->lt (p.getD k 0) (p.getD i 0)=true)
 |0,l,r,h1,h2,h3,hl,hr=>⟨by exact z0b h1 h2,hl,λ i a b=>hr i (by exact anY h3 a) b⟩
 | f + 1,l,r,h1,h2,h3,hl,hr=>by
  unfold kas_place
  by_cases hlr:l>=r
  ·rw[if_pos hlr]
   exact⟨by exact z0b h1 h2,hl,λ i a b=>hr i (by exact z0b hlr a) b⟩
  ·rw[if_neg hlr]
   have hm:(l+r) / 2 < k:=by exact anZ h2 hlr
   refine⟨h.bd hk,h.bd (by exact Nat.lt_trans hm hk),?_⟩
   cases e:lt (p.getD k 0) (p.getD ((l+r) / 2) 0) with
   | true=>
    refine Dq o h hk s f l ((l+r) / 2) (by exact ae9 h1) (by exact z0e hm) (by exact an0 h3) hl λ i a b=>?_
    by_cases hi:i=(l+r) / 2
    ·rw[hi];exact e
    ·exact o.tr _ _ _ (h.bd hk) (h.bd (by exact aiB h1 h2 hk)) (h.bd (by exact an6 b hk)) e (s _ _ (by exact an5 a hi) b)
   | false=>
    have e':=o.tot _ _ (h.bd hk) (h.bd (by exact Nat.lt_trans hm hk)) (h.ne (i:=k) (j:=(l+r) / 2) hk (by exact Nat.lt_trans hm hk) (by exact Nat.ne_of_gt hm)) e
    refine Dq o h hk s f ((l+r) / 2+1) r (by exact an8 hlr) h2 (by exact an7 h3) (λ i a=>?_) hr
    by_cases hi:i=(l+r) / 2
    ·rw[hi];exact e'
    ·exact o.tr _ _ _ (h.bd (by exact aoa a h1 h2 hk)) (h.bd (by exact aiB h1 h2 hk)) (h.bd hk) (s i ((l+r) / 2) (by exact an9 a hi) hm) e'
theorem Z0 (o:Ord n lt):∀(f:Nat) (p:Array Nat) (k:Nat),Pm n p->S lt p k->k+f<=n->Sat n lt (kas_bin f p k) (λ q=>Pm n q/\S lt q (k+f))
 |0,p,k,h,s,_=>⟨h,s⟩
 | f + 1, p, k,h,s,hk=>by
  refine Sat.bind (Sat.mono (λ l ⟨l1,l2,l3⟩=>?_) (Dq o h (by exact uN hk) s k 0 k (Nat.zero_le _) (z0g _) (by exact z0g _) (λ i a=>by exact (aoc a).elim) λ i a b=>by exact (aob b a).elim))
  have hq:Pm n (bubble p k (k - l)):=h.of (bubble_perm _ _ _)
  have g:∀i,(bubble p k (k - l)).getD i 0=if i=l then p.getD k 0 else if l < i/\i<=k then p.getD (i - 1) 0 else p.getD i 0:=λ i=>by
   have e:=getElem?_bubble (xs:=p) (src:=k) (by rw[h.size];exact uN hk) (k - l) (by exact Nat.sub_le _ _) i
   rw[show k - (k - l)=l by exact aod l1] at e
   by_cases c1:i=l
   ·rw[if_pos c1] at e |-;exact Hi e
   ·rw[if_neg c1] at e |-
    by_cases c2:l < i/\i<=k
    ·rw[if_pos c2] at e |-;exact Hi e
    ·rw[if_neg c2] at e |-;exact Hi e
  have hs : S lt (bubble p k (k - l)) (k+1):=λ i j hij hj=>by
   rw[g i,g j]
   by_cases c1:i=l
   ·rw[if_pos c1,if_neg (by exact aof hij c1),if_pos ⟨by exact aoe hij c1,by exact Nat.le_of_lt_succ hj⟩]
    exact l3 (j - 1) (by exact ajQ hij c1) (by exact afa hj hij)
   ·rw [if_neg c1]
    by_cases c2:l < i/\i<=k
    ·rw[if_pos c2,if_neg (by exact ajS c2 hij),if_pos ⟨by exact ajR c2 hij,by exact Nat.le_of_lt_succ hj⟩]
     exact s (i - 1) (j - 1) (by exact ajT c2 hij) (by exact afa hj hij)
    ·rw [if_neg c2]
     have hil:i < l:=by exact ajU hij hj c2 c1
     by_cases c3:j=l
     ·rw[if_pos c3];exact l2 i hil
     ·rw[if_neg c3]
      by_cases c4:l < j/\j<=k
      ·rw[if_pos c4]
       by_cases c5:i=j - 1
       ·exact (ajV c4 c5 c2 c1).elim
       ·exact s i (j - 1) (by exact ajW c4 hij c2 c1) (by exact afa hj hij)
      ·rw[if_neg c4]
       exact s i j hij (by exact ajX hj l1 c4 c3)
  have:=Z0 o f (bubble p k (k - l)) (k+1) hq hs (by exact ae7 hk)
  exact Sat.mono (λ q ⟨q1,q2⟩=>⟨q1,by rw[show k+(f+1)=k+1+f by exact ajY];exact q2⟩) this
theorem afj (o:Ord n lt) (hn:1<=n):Sat n lt (kas_sort n) (λ q=>Pm n q/\S lt q n):=by
 have h0:Pm n (List.toArray (List.range n)):=⟨by simp,by simp⟩
 refine Sat.bind (Sat.mono (λ r ⟨r1,r2,r3,r4⟩=>?_) (adh o h0 hn))
 by_cases hr:r.1 < n
 ·rw[if_pos hr]
  have e:max r.1 1=r.1:=by exact ajZ r2
  rw[e]
  refine Sat.mono (λ q ⟨q1,q2⟩=>⟨q1,?_⟩) (Z0 o (n - r.1) r.2 r.1 r1 r4 (by exact aiz r3))
  rw[show r.1+(n - r.1)=n by exact aj0 r3] at q2
  exact q2
 ·rw[if_neg hr]
  have e:r.1=n:=by exact ae5 r3 hr
  rw[e] at r4
  exact⟨r1,r4⟩
end
end Pu
namespace Pu
open PySem PySem.Spec PySem.W L2
open PyProof.Rows hiding St
theorem J4 {h:Heap} {a b:Addr} {vs:List Value} {out:Array Value} {o:Obj} (hb:b≠a) (e:h.get? b=some o):(sortedHeap h a vs out).get? b=some o:=by
 unfold sortedHeap
 rw[Heap.get?_update_ne _ _ _ _ hb]
 exact Heap.get?_push_of_some _ (Heap.get?_push_of_some _ (by rw[Heap.get?_update_ne _ _ _ _ hb];exact e))
theorem sortedHeap_at {h:Heap} {a:Addr} {vs:List Value} {out:Array Value} {n:Nat} (e:h.get? a=some (seqObj "list" vs.toArray n)):∃c,(sortedHeap h a vs out).get? a=some (seqObj "list" out c):=by
 unfold sortedHeap
 have h1:=get?_update_seq e (λ Z=>(#[]:Array Value))
 exact⟨_,get?_update_seq (Heap.get?_push_of_some _ (Heap.get?_push_of_some _ h1)) λ Z=>out⟩
theorem adi (vs:List Value) (h:vs.length < 2):(vs.toArray.zip vs.toArray).map (·.2)=List.toArray ((List.toArray (List.range vs.length)).toList.map λ i=>vs.getD i Value.none):=by
 match vs,h with
 |[],_=>simp
 |[v],_=>simp[List.range_succ]
 |_::_::_,h=>exact absurd h (by simp)
section
variable {prog:Program} {w:World} {A:Around} {E:Value->Shared->Prop} {s:Shared}
theorem ag0 {a:Addr} {vs:List Value} {n:Nat} {P:PySem.Fin->Shared->Prop} {lt:Nat->Nat->Bool} {kk:SortKind} (ho:s.heap.get? a=some (seqObj "list" vs.toArray n)) (h64:vs.length < 64) (od:Ord vs.length lt)
  (kind:2<=vs.length->∀h':Heap,(∀b ob,b≠a->s.heap.get? b=some ob->h'.get? b=some ob)->∀Q:SortKind->Shared->Prop,Q kk {s with heap:=h'}->wpAny (model prog w) A (keyKind' vs.toArray) Q (λ Z Z=>False) {s with heap:=h'})
  (ask:∀h':Heap,(∀b ob,b≠a->s.heap.get? b=some ob->h'.get? b=some ob)->∀i j C,i < vs.length->j < vs.length->C (lt i j) {s with heap:=h'}->kas_ask prog w A kk vs i j C {s with heap:=h'})
  (h:∀q:Array Nat,Pm vs.length q->S lt q vs.length->P (.done (.ret .none)) {s with heap:=sortedHeap s.heap a vs (List.toArray (q.toList.map λ i=>vs.getD i Value.none))}):
  wpAny (model prog w) A (Builtin.«list.sort» ⟨[.ref a],[]⟩) P E s:=by
 rw[list_sort_plain]
 have ha:a < s.heap.objs.size:=Heap.lt_size ho
 refine wpAny_bind (listItems_at ho rfl ?_)
 refine wpAny_bind (listUpdate_at ho rfl ?_ (by rw[List.size_toArray,sizeLine_eq];exact SQ h64) (Nat.zero_le _))
 obtain⟨e1,ho1⟩:∃e1,(s.heap.update a (Obj.mapSeq λ Z=>(#[]:Array Value))).get? a=some (seqObj "list" #[] e1):=⟨_,get?_update_seq ho (λ Z=> #[])⟩
 refine wpAny_bind (seqEpoch_at ho1 rfl ?_)
 refine wpAny_bind (wpAny_newTuple ?_ (by show vs.length<=_;rw[sizeLine_eq];exact SQ h64))
 refine wpAny_bind (wpAny_newList ?_ (Nat.zero_le _))
 refine wpAny_holding ?_
 generalize hh6:((s.heap.update a (Obj.mapSeq λ Z=>(#[]:Array Value))).push (seqObj "tuple" vs.toArray 0)).push (seqObj "list" #[] 0)=h6
 have ho6:h6.get? a=some (seqObj "list" #[] e1):=by
  rw[<-hh6];exact Heap.get?_push_of_some _ (Heap.get?_push_of_some _ ho1)
 have keep:∀b ob,b≠a->s.heap.get? b=some ob->h6.get? b=some ob:=λ b ob hb e=>by
  rw[<-hh6]
  exact Heap.get?_push_of_some _ (Heap.get?_push_of_some _ (by rw[Heap.get?_update_ne _ _ _ _ hb];exact e))
 have hsh:∀out:Array Value,sortedHeap s.heap a vs out=h6.update a (Obj.mapSeq λ Z=>out):=λ out=>by rw[<-hh6];rfl
 show wpAny (model prog w) A _ P E {s with heap:=h6}
 dsimp only
 have hsz:vs.toArray.size=vs.length:=by simp
 by_cases h2:vs.toArray.size < 2
 ·rw[if_pos h2,if_pos h2]
  refine wpAny_bind (wpAny_pure ?_)
  rw[StateT.run_pure]
  refine wpAny_bind (wpAny_pure ?_)
  dsimp only
  refine wpAny_bind (seqEpoch_at ho6 rfl ?_)
  refine wpAny_bind (listUpdate_at ho6 rfl ?_ (Nat.zero_le _) (by show (((pairsOf vs)).map (·.2)).size<=_;rw[Array.size_map,pairsOf_size,sizeLine_eq];exact agk h64))
  simp only[bne_self_eq_false,Bool.false_eq_true,if_false]
  have q:=h (List.toArray (List.range vs.length)) ⟨by simp,by simp⟩ (λ i j h1 h3=>by exact (aj1 h2 hsz h3 h1).elim)
  rw[hsh] at q
  have eo:(arrOf (SortSt.mk' general' (vs.toArray.zip vs.toArray) #[] 7 none)).map (·.2)=List.toArray ((List.toArray (List.range vs.length)).toList.map λ i=>vs.getD i Value.none):=by
   show (vs.toArray.zip vs.toArray).map (·.2)=_
   exact adi vs (by rw[<-hsz];exact h2)
  refine wpAny_pure ?_
  show P _ {s with heap:=h6.update a (Obj.mapSeq λ Z=>(arrOf (SortSt.mk' general' (vs.toArray.zip vs.toArray) #[] 7 none)).map (·.2))}
  rw[eo]
  exact q
 ·rw[if_neg h2,if_neg h2]
  have h2':2<=vs.length:=by rw[hsz] at h2;exact Nat.not_lt.mp h2
  refine wpAny_bind (wpAny_mono (kind h2' h6 keep (λ κ s'=>κ=kk/\s'={s with heap:=h6}) ⟨rfl,rfl⟩) (λ κ s0 hk=>?_) λ Z Z x=>x.elim)
  obtain⟨rfl,rfl⟩:=hk
  have wp:(kas_sort vs.length).kasWp (kas_ask prog w A κ vs) (λ p s''=>(Pm vs.length p/\S lt p vs.length)/\s''={s with heap:=h6}) {s with heap:=h6}:=
   Sat.wp (ask h6 keep) (λ p hp=>⟨hp,rfl⟩) (afj od (by exact z0e h2'))
  refine wpAny_bind (wpAny_mono (kat_run (Q:=λ st' s'=>∃p:Array Nat,p.size=vs.length/\arrOf st'=p.map (kas_item (vs.toArray.zip vs.toArray))/\failedOf st'=none/\(Pm vs.length p/\S lt p vs.length)/\s'={s with heap:=h6})
   rfl h2' h64 (λ p' st' s' a1 a2 a3 a4=>⟨p',a1,a2,a3,a4⟩) wp) ?_ λ Z Z e=>e)
  rintro⟨⟨⟩,st'⟩ s' ⟨p,hp,har,hf,⟨hpm,hps⟩,rfl⟩
  dsimp only
  have hout:=kat_snds rfl har
  rw[hout]
  refine wpAny_bind (seqEpoch_at ho6 rfl ?_)
  refine wpAny_bind (listUpdate_at ho6 rfl ?_ (Nat.zero_le _) (by show (List.toArray (p.toList.map λ i=>vs.getD i Value.none)).size<=_;rw[List.size_toArray,List.length_map,Array.length_toList,hp,sizeLine_eq];exact agk h64))
  rw[hf]
  simp only[bne_self_eq_false,Bool.false_eq_true,if_false]
  have q:=h p hpm hps
  rw[hsh] at q
  exact wpAny_pure q
end
end Pu
namespace Pu
open PySem PySem.Spec PySem.W L2
open PyProof.Rows hiding St
section
variable {prog:Program} {w:World} {A:Around} {E:Value->Shared->Prop} {s:Shared}
end
end Pu
namespace Pu
open PySem PySem.Spec PySem.W L2
open PyProof.Rows hiding St
section
variable {X:Cx} {pins:List (Addr×Obj)} {σ:St} {H:Hp} {s:Shared}
end
theorem Z1:∀as:List Addr,Vals (as.map V.ref) (as.map Value.ref)
 |[]=> .nil
 |a::as=> .cons rfl (Z1 as)
section
variable {X:Cx}
end
end Pu
namespace Pu
open PySem PySem.Spec PySem.W L2
open PyProof.Rows hiding St
section
variable {X:Cx}
end
end Pu
namespace Pu
open PySem PySem.Spec L2
open PyProof.Rows hiding St
section
variable {X:Cx} {a b:Expr} {es:List Expr} {f g:aq->R D} {fa:aq->R (List D)} {pos:Pos}
noncomputable def Ak (i k:Nat) (f g:aq->R D):aq->So:=λ ρ=>nP (f ρ) ρ λ d=>nP (g ρ) ρ λ e=> .nx ((ρ.set i (some (.val d))).set k (some (.val e)))
theorem Dr (i k:Nat) {x y:Str} {px py pt:Pos} {kt k2 pt2} (hc:X.calm=true) (hN:X.N.Nodup) (ha:DE X a f) (hb:DE X b g) (hi:autoParam (X.N[i]?=some x) bB._auto_1) (hk:autoParam (X.N[k]?=some y) bB._auto_1) (hik:autoParam (i≠k) dM._auto_1)
  (hx:autoParam (X.env.scope.names.lookup x=some .local) bB._auto_1) (hy:autoParam (X.env.scope.names.lookup y=some .local) bB._auto_1)
  (h1:autoParam (starEach [a,b] X.env=(false,eval a X.env)::starEach [b] X.env) bB._auto_1) (h2:autoParam (starEach [b] X.env=(false,eval b X.env)::starEach [] X.env) bB._auto_1)
  (hw:autoParam (swappedStores [.Tuple [.Name x px,.Name y py] kt pt] (.Tuple [a,b] k2 pt2) X.env=pure (some [x,y])) bB._auto_1)
  (hs:autoParam (swapsWithSole [.Tuple [.Name x px,.Name y py] kt pt] (.Tuple [a,b] k2 pt2) pos.line X.env=pure false) bB._auto_1):
  DS X (.Assign [.Tuple [.Name x px,.Name y py] kt pt] (.Tuple [a,b] k2 pt2) pos) (Ak i k f g):=by
 refine PS.imp (ps_par hc hN hi hk hik hx hy (pa_cons ha (pa_cons hb pa_nil h2) h1) hw hs) λ σ H E h=>?_
 obtain⟨H0,O0,O,ρ,j,h⟩:=h
 refine⟨ρ,O,j.inn,?_⟩
 unfold Ak nP at h
 cases e1:f ρ with
 |bad=>rw[e1] at h;exact h
 |err c=>rw[e1] at h;exact h σ H O j
 | ok d=>
  rw[e1] at h
  intro v H1 s1 rv
  have j1:=j.grow s1
  refine⟨ρ,O,j1.inn,?_⟩
  cases e2:g ρ with
  |bad=>simp only[e2] at h;exact h
  |err c=>simp only[e2] at h;exact PJ.same (h σ H O j) s1
  | ok e=>
   simp only[e2] at h
   intro w H2 s2 rw2
   refine⟨v,w,rfl,?_⟩
   exact h _ H2 O (((j1.grow s2).set (List.getElem?_eq_some_iff.mp hi).1 (rv.same s2)).set (List.getElem?_eq_some_iff.mp hk).1 rw2) ((Same.gY s1).trans (Same.gY s2))
noncomputable def T4 (i k:Nat) (f:aq->R D) (fa:aq->R (List D)):aq->So:=λ ρ=>nP (f ρ) ρ λ d=>match fa ρ with
 | .ok ds=>if ds.length<=1000000 then .nx ((ρ.set i (some (.val d))).set k (some (.lst ds))) else .bad
 |_=> .bad
theorem ag1 (i k:Nat) {x y:Str} {px py pt p3:Pos} {kt k2 pt2} (hc:X.calm=true) (hN:X.N.Nodup) (ha:DE X a f) (hb:DA X es fa) (hi:autoParam (X.N[i]?=some x) bB._auto_1) (hk:autoParam (X.N[k]?=some y) bB._auto_1)
  (hx:autoParam (Loc X.env.scope x) ug._auto_1) (hy:autoParam (Loc X.env.scope y) ug._auto_1)
  (hfx:autoParam (X.fn x=true\/X.env.scope.names.lookup x=some .local) uh._auto_1) (Tz:autoParam (X.fn y=true\/X.env.scope.names.lookup y=some .local) uh._auto_1)
  (h1:autoParam (starEach [a,.List es p3] X.env=(false,eval a X.env)::starEach [.List es p3] X.env) bB._auto_1) (h2:autoParam (starEach [.List es p3] X.env=(false,eval (.List es p3) X.env)::starEach [] X.env) bB._auto_1)
  (hs:autoParam (swapsWithSole [.Tuple [.Name x px,.Name y py] kt pt] (.Tuple [a,.List es p3] k2 pt2) pos.line X.env=pure false) bB._auto_1) (hw:autoParam (swappedStores [.Tuple [.Name x px,.Name y py] kt pt] (.Tuple [a,.List es p3] k2 pt2) X.env=pure none) bB._auto_1):
  DS X (.Assign [.Tuple [.Name x px,.Name y py] kt pt] (.Tuple [a,.List es p3] k2 pt2) pos) (T4 i k f fa):=by
 refine PS.imp (ps_asg (pe_tup (pa_cons ha (pa_cons (ZX hb) pa_nil h2) h1)) (pg_tup hc (pgs_cons (pg_name hN hi hx hfx) (pgs_cons (pg_name hN hk hy Tz) pgs_nil))) hs hw) λ σ H E h=>?_
 refine bc λ zQ=>?_
 obtain⟨H0,O0,O,ρ,j,h⟩:=h
 apply zQ;clear zQ
 refine⟨ρ,O,j.inn,?_⟩
 unfold T4 nP at h
 cases e1:f ρ with
 |bad=>rw[e1] at h;exact h
 |err c=>rw[e1] at h;exact h σ H O j
 | ok d=>
  rw[e1] at h
  intro v H1 s1 rv
  have j1:=j.grow s1
  refine⟨ρ,O,j1.inn,?_⟩
  cases e2:fa ρ with
  |bad=>simp only[e2] at h;exact h
  |err c=>simp only[e2] at h;exact h.elim
  | ok ds=>
   simp only[e2] at h
   by_cases hl:ds.length<=1000000
   ·simp only[if_pos hl] at h
    intro vs H2 s2 rvs
    refine⟨by rw[<-rvs.length];exact z0b hl iT,λ p hp hpk=>?_⟩
    refine⟨by show 2<=sizeLine;decide,λ t ht=>?_⟩
    refine⟨t,[v,.ref p],rfl,SqT.of upd_same,rfl,v,[.ref p],rfl,.ref p,[],rfl,rfl,?_⟩
    have j2:=(j1.grow s2).set (List.getElem?_eq_some_iff.mp hi).1 (rv.same s2)
    refine bc λ zQ=>?_
    obtain⟨j3,r3⟩:=j2.own (List.getElem?_eq_some_iff.mp hk).1 (o:= .lst vs) (en:= .lst ds) hp hpk rfl ⟨p,vs,rfl,.inr rfl,upd_same,rvs.go ⟨(Same.gY (K:=X.K) (O:=O) (Same.upd hp)).ext,λ a z=>z.elim .inl λ e=> .inr (by rw[e];exact⟨hp,hpk⟩),(Same.gY (K:=X.K) (O:=O) (Same.upd hp)).dom⟩⟩
    apply zQ;clear zQ
    have s4:Same (upd H2 p (.lst vs)) (upd (upd H2 p (.lst vs)) t (.tup [v,.ref p])):=Same.upd ht
    exact h _ _ _ (j3.grow s4) ((((Same.gY s1).trans (Same.gY s2)).trans r3).trans (Same.gY s4))
   ·simp only[if_neg hl] at h;exact h.elim
end
noncomputable def Hj (s:String):Bool:=s == "int" || s == "bool"
noncomputable def Al (s:String):Bool:=s == "bool"
noncomputable def kO (s:String):Bool:=s == "tuple"
noncomputable def T5 (s:String):Bool:=s == "list"
noncomputable def aY (P:Program) (w:World) (K:PySem.W.Frag) (mg:Str->Option Value) (base:Heap) (k:Nat) (x:Str) (n:Nat) (F:List D->R D):Prop:=
 ∃f fd ps,FnOk P w K mg base CX0 k f fd ps (TF K n F)/\mg x=some (.ref f)/\PySem.W.keepIn K (.ref f)=true/\Binds K fd ps []
theorem bQ {X:Cx} {k n m:Nat} {F:List D->R D} {x:Str} {p pos:Pos} {e:Expr} {es:List Expr} {fa:aq->R (List D)} (G:aY X.prog X.w X.K X.mg X.base k x n F) (hr:Room m X.A) (hkm:k<=m) (ha:DA X (e::es) fa) (hg:autoParam (Gl X x) bB._auto_1)
  (hdb:autoParam ((x ==("__debug__" :Str))=false) dM._auto_1) (he:autoParam (starEach (e::es) X.env=(false,eval e X.env)::starEach es X.env) bB._auto_1) (hpl:autoParam ((backTo pos (starEach es X.env)).any (·.1)=false) bB._auto_1):
  DE X (.Call (.Name x p) (e::es) [] pos) (aF (bh F n) fa):=by
 obtain⟨f,fd,ps,ok,hm,hk,hb⟩:=G
 exact agZ ok (hr.mono hkm) hg hm hk hb ha hdb he hpl
theorem fG {A:Around} {k:Nat} (hr:Room k A):A.units+60 < cLine:=by have:=hr.un;exact aj2 this
theorem cB {P:Program} {w:World} {K:PySem.W.Frag} {mg:Str->Option Value} {base:Heap} {x qual:Str} {st:Stmt} {f:Addr} {fd:FuncData} {N ps:List Str} {k n m:Nat} {g:aq->So} (Fn:Fun K x qual st f fd) (hmg:mg x=some (.ref f)) (hb:Binds K fd ps []) (S:FnScope N ps (defScope st)) (hn:ps.length=n) (hm:N.length=n+m)
  (hbody:∀(cdv:Value) (A:Around) (outer:List PySem.Env) (s:Shared) (H:Hp) (E:XK),Room k (A.deeper (envOfC qual (defScope st) s.heap.objs.size f cdv))->cW (cxOf CX0 P w K mg base N qual (defScope st) f cdv A outer s H E).nox (defBody st) g):
  aY P w K mg base (k+1) x n (cT m g):=⟨f,fd,ps,fnD Fn S hn hm hbody λ ds d Z e=>e,hmg,Fn.kp,hb⟩
theorem sp_law {K:PySem.W.Frag} {F:List D->R D} {H:Hp} {a:Addr} {ns:List Int} {E:XK} (hS:SqL K H a (ns.map V.int)) (hF:F [.lst (ns.map D.int)]= .ok (.bl true)):TF K 1 F [.ref a] H (λ v Z=>v= .bl true) E:=by
 refine⟨λ Z=>False,[.lst (ns.map D.int)],.cons (uG hS (λ z=>z) ?_) .nil,rfl,λ a z=>z.elim,?_⟩
 ·have:∀l:List Int,aZ K (λ Z=>False) H (l.map D.int) (l.map V.int):=by
   intro l
   induction l with
   |nil=>exact .nil
   |cons i l ih=>exact .cons (cO i) ih
  exact this ns
 ·rw[hF]
  exact λ v H' Z r=>r.bl
end Pu
namespace Pu
open PySem PySem.Spec L2
theorem Z4 {α:Type} {k:D->R (Option D)} {c h:α->D}:∀{l:List α},(∀a∈l,k (c a)= .ok (some (h a)))->mq k (l.map c)= .ok (l.map h)
 |[],_=>rfl
 | a::l,q=>by
  rw[List.map_cons,ac7,q a (by simp),J1,R.bL,Z4 λ b hb=>q b (by simp[hb])]
  rfl
theorem J5 {α:Type} {c:α->Bool}:∀{l:List α},boolsOf (l.map λ a=> .bl (c a))=some (l.map c)
 |[]=>rfl
 | a::l=>by
  rw[List.map_cons,ada,J5]
  rfl
theorem Ds {α:Type} {c:α->Int}:∀{l:List α},intsOf (l.map λ a=> .int (c a))=some (l.map c)
 |[]=>rfl
 | a::l=>by
  rw[List.map_cons,afg,Ds]
  rfl
theorem zu {α:Type} {c:α->D} {n:Nat}:∀{l:List α},(∀a∈l,dep (c a)<=n)->deps (l.map c)<=n
 |[],_=>by rw[List.map_nil,aiU];exact Nat.zero_le _
 | a::l,h=>by
  rw[List.map_cons,TV]
  have:=h a (by simp)
  have:=zu (l:=l) λ b hb=>h b (by simp[hb])
  exact aj3 (by assumption) this
theorem qI {d e:D} (h:d=e) (hd:dep d<=40):jW d e= .ok (.bl false):=by
 subst h
 rw[jW,if_pos hd,Jb];rfl
theorem afk {d e:D} (h:d=e) (hd:dep d<=40):nW d e= .ok (.bl true):=by
 subst h
 rw[nW,if_pos hd,Jb]
theorem all_true {l:List α}:(l.map λ Z=>true).all id=true:=by
 induction l with
 |nil=>rfl
 |cons a l ih=>rw[List.map_cons,List.all_cons,ih];rfl
theorem atI_nat {α:Type} {xs:List α} {j:Nat} (h:j < xs.length):atI xs (j:Int)=some xs[j]:=by
 unfold atI ixN
 rw[if_pos (by exact z0a _),if_pos (by exact Int.ofNat_lt.mpr h),Int.toNat_natCast,Option.bind_some,List.getElem?_eq_getElem h]
theorem Hl {α:Type} {xs:List α} {i:Int} (h0:0<=i) (h1:i < xs.length):∃x∈xs,atI xs i=some x:=by
 obtain⟨j,rfl⟩:=Int.eq_ofNat_of_zero_le h0
 have hj:j < xs.length:=by exact Int.ofNat_lt.mp h1
 exact⟨xs[j],List.getElem_mem hj,atI_nat hj⟩
theorem cQ {α:Type} {n:Nat} {caps:List Nat} {fi:aq->R (List D)} {gt:D->aq->R aq} {ft:aq->R Bool} {fe:aq->R D} {ρ:aq} {c h:α->D} {l:List α} (e1:fi ρ= .ok (l.map c)) (hl:l.length<=1000000)
  (e2:∀a∈l,qz gt ft fe (G8 n caps ρ) (c a)= .ok (some (h a))):cj n caps fi gt ft fe ρ= .ok (.lst (l.map h)):=by
 rw[cj,e1,R.bL,Z4 e2,R.bL,cap,if_pos (by rw[List.length_map];exact hl)]
noncomputable def look:List (Int×Int)->Int->Int
 |[],_=>0
 |(k,v)::r,c=>if k=c then v else look r c
noncomputable abbrev keys (ps:List (Int×Int)):List Int:=ps.map (·.1)
end Pu
namespace Pu
open PySem PySem.Spec L2
section
variable {ρ ρ':aq} {f g:aq->R D} {fa:aq->R (List D)} {p q:aq->R Bool} {x y d:D} {xs ds:List D} {r:R D} {k:D->D->R D} {c:List D->R D} {n:Nat} {F:List D->R D} {o:So} {s t:aq->So} {gt:D->aq->R aq} {b:Bool}
theorem bx (e:fa ρ= .ok ds) (h:c ds=r):aF c fa ρ=r:=by rw[aF,e];exact h
theorem bF (e:fa ρ= .ok ds) (h:F ds= .ok d) (hl:autoParam (ds.length=n) bB._auto_1):aF (bh F n) fa ρ= .ok d:=by rw[aF,e,R.bL,bh,if_pos hl,h];rfl
theorem aD (e1:f ρ= .ok x) (e2:fa ρ= .ok xs):ao f fa ρ= .ok (x::xs):=by rw[ao,e1,R.bL,e2];rfl
theorem aB (e:f ρ= .ok x):ao f (λ Z=> .ok []) ρ= .ok [x]:=aD e rfl
theorem au (e1:f ρ= .ok x) (e2:g ρ= .ok y) (h:k x y=r):bin f g k ρ=r:=by rw[bin,e1,R.bL,e2];exact h
theorem zx (e1:f ρ= .ok (.bl true)) (e2:g ρ=r):xu f g ρ=r:=by rw[xu,e1];exact e2
theorem T6 {h:aq->R D} {l:D->D->R D} {z:D} (e1:f ρ= .ok x) (e2:g ρ= .ok y) (e3:k x y= .ok (.bl true)) (e4:h ρ= .ok z) (e5:l y z=r):Tr f g h k l ρ=r:=by
 rw[Tr,e1,R.bL,e2,R.bL,e3,R.bL]
 show (h ρ).bind _=_
 rw[e4];exact e5
theorem eN (e:fa ρ= .ok ds) (h:autoParam (ds.length<=1000000) ap7._auto_1):dh fa ρ= .ok (.tup ds):=by rw[dh,e,R.bL,cap,if_pos h]
theorem iB (e:fa ρ= .ok ds) (h:autoParam (ds.length<=1000000) ap7._auto_1):jN fa ρ= .ok (.lst ds):=by rw[jN,e,R.bL,cap,if_pos h]
theorem jf (e:f ρ= .ok (.tup ds)):fB f ρ= .ok ds:=by rw[fB,e];rfl
theorem qJ (e:f ρ= .ok (.lst ds)):fB f ρ= .ok ds:=by rw[fB,e];rfl
theorem mL {m:Nat} (e:fa ρ= .ok [.int (m:Int)]) (h:m < 2 ^ 62):(λ ρ=>(fa ρ).bind mF) ρ= .ok ((List.range m).map λ (i:Nat)=>D.int (i:Int)):=by
 show (fa ρ).bind mF=_
 rw[e,R.bL,aiK,if_pos ⟨by have:(0:Int)<=m:=z0a m;exact z0a _,by omega⟩]
 simp[upto]
theorem c7 {ρ1:aq} (e1:gt x ρ= .ok ρ1) (e2:f ρ1= .ok d):qz gt (λ Z=> .ok true) f ρ x= .ok (some d):=by
 rw[qz,e1,R.bL,R.bL,if_pos rfl,e2];rfl
theorem bw (e:f ρ= .ok (.bl b)):cL f ρ= .ok b:=by rw[cL,e];rfl
theorem pP (e:p ρ= .ok b):xG p ρ= .ok (!b):=by rw[xG,e];rfl
theorem sO (e1:p ρ= .ok false) (e2:q ρ= .ok b):Cw p q ρ= .ok b:=by rw[Cw,e1,R.bL,if_neg (by decide)];exact e2
theorem pB (e1:p ρ= .ok true) (e2:q ρ= .ok b):o7 p q ρ= .ok b:=by rw[o7,e1,R.bL,if_pos rfl];exact e2
theorem Ho (e1:p ρ= .ok false):o7 p q ρ= .ok false:=by rw[o7,e1,R.bL,if_neg (by decide)]
theorem pQ {i:Nat} (h:xs[i]?=some d):bZ (.tup xs) (.int (i:Int))= .ok d:=by
 obtain⟨hi,e⟩:=List.getElem?_eq_some_iff.mp h
 show (match (L2.atI _ _:Option D) with |some d=>R.ok d |none=>R.bad)=_
 rw[atI_nat hi,e]
theorem T7 {i:Nat} (h:xs[i]?=some d):bZ (.lst xs) (.int (i:Int))= .ok d:=by
 obtain⟨hi,e⟩:=List.getElem?_eq_some_iff.mp h
 show (match (L2.atI _ _:Option D) with |some d=>R.ok d |none=>R.bad)=_
 rw[atI_nat hi,e]
theorem aM (e1:s ρ= .nx ρ') (e2:t ρ'=o):bA s t ρ=o:=by rw[bA,e1];exact e2
theorem bN (e:f (cX ρ)= .ok d):retS f ρ= .rt d:=by rw[retS,e];rfl
theorem bH (e:f ρ= .ok d) (e2:gt d ρ= .ok ρ'):bV f gt ρ= .nx ρ':=by rw[bV,e];show (match gt d ρ with | .ok ρ'=>So.nx ρ' |_=> .bad)=_;rw[e2]
theorem zy (e:f (cX ρ)= .ok d):Ai f ρ= .nx ρ:=by rw[Ai,e];rfl
theorem eO (e:p (cX ρ)= .ok true) (e2:s ρ=o):gj p s t ρ=o:=by rw[gj,e];exact e2
theorem cZ (e:p (cX ρ)= .ok false) (e2:t ρ=o):gj p s t ρ=o:=by rw[gj,e];exact e2
theorem cH {m:Nat} (e:s (ds.map (λ d=>some (.val d))++List.replicate m none)= .rt d):cT m s ds= .ok d:=by rw[cT,e]
theorem aaT {m:Nat} (e:s (ds.map (λ d=>some (.val d))++List.replicate m none)= .nx ρ):cT m s ds= .ok .non:=by rw[cT,e]
theorem nY {i j:Int} (h:(-(2 ^ 64) < i/\i < 2 ^ 64)\/(-(2 ^ 64) < j/\j < 2 ^ 64)):ji (.int i) (.int j)= .ok (.int (i*j)):=by
 show (if _ then _ else _)=_
 rw[if_pos h]
theorem pR {i j:Int} (h:0 < j/\j < 2 ^ 64):jw (.int i) (.int j)= .ok (.int (i / j)):=by
 show (if _ then _ else _)=_
 rw[if_pos h]
theorem pU {i j:Int} (h:0 < j):ig (.int i) (.int j)= .ok (.int (i % j)):=by
 show (if _ then _ else _)=_
 rw[if_pos h]
theorem Hq {α:Type} {l:List α}:Aj [.lst (l.map λ Z=> .bl true)]= .ok (.bl true):=by
 have:=J5 (c:=λ _:α=>true) (l:=l)
 rw[aiS,this]
 show R.ok (D.bl _)=_
 rw[all_true]
theorem ag2 {α:Type} {c:α->Int} {l:List α}:TQ [.lst (l.map λ a=> .int (c a))]= .ok (.int (l.map c).sum):=by rw[TQ,Ds]
end
end Pu
namespace Pu
open PySem PySem.Spec L2
noncomputable def MP:aq->So:=(bA (bV (bin (λ Z=> .ok (.int 7)) (λ ρ=>ak ρ 1) ji) (aV 3)) (bA (gj (cL (bin (λ ρ=>ak ρ 0) (jN (λ Z=> .ok [])) jW)) (bA (bV (bin (λ ρ=>ak ρ 0) (bin (λ ρ=>ak ρ 1) (aF cM (ao (λ ρ=>ak ρ 0) (λ Z=> .ok []))) ig) bZ) (aV 3)) (bA (bV (bin (λ ρ=>ak ρ 1) (aF cM (ao (λ ρ=>ak ρ 0) (λ Z=> .ok []))) jw) (aV 4)) (bA (gj (o7 (cL (bin (λ ρ=>ak ρ 3) (bin (λ Z=> .ok (.int 10)) (λ Z=> .ok (.int 18)) xr) geI)) (cL (bin (λ ρ=>ak ρ 4) (λ Z=> .ok (.int 60)) ltI))) (bA (bV (bin (λ ρ=>ak ρ 3) (bin (λ Z=> .ok (.int 10)) (λ Z=> .ok (.int 18)) xr) jw) (aV 5)) (bA (jk (o7 (cL (bin (λ ρ=>ak ρ 5) (λ Z=> .ok (.int 0)) zf)) (cL (bin (λ ρ=>ak ρ 4) (λ Z=> .ok (.int 0)) zf))) (bA (bV (bin (λ ρ=>ak ρ 5) (λ Z=> .ok (.int 1000000)) jw) (aV 5)) (bV (bin (λ ρ=>ak ρ 4) (λ Z=> .ok (.int 1)) dX) (aV 4))) 64) (gj (cL (bin (λ ρ=>ak ρ 5) (λ Z=> .ok (.int 0)) zf)) (retS (bin (bin (λ ρ=>ak ρ 5) (λ Z=> .ok (.int 1000000)) ig) (λ ρ=>ak ρ 2) ig)) So.nx))) So.nx) (bV (bin (λ ρ=>ak ρ 3) (bin (λ Z=> .ok (.int 6553)) (bin (λ ρ=>ak ρ 1) (aF cM (ao (λ ρ=>ak ρ 0) (λ Z=> .ok []))) jw) ji) fY) (aV 3))))) So.nx) (bA (bV (bin (bin (bin (bin (λ ρ=>ak ρ 3) (λ Z=> .ok (.int 2147483563)) ig) (λ Z=> .ok (.int 69069)) ji) (bin (λ Z=> .ok (.int 104723)) (bin (λ ρ=>ak ρ 1) (λ Z=> .ok (.int 1)) fY) ji) fY) (λ Z=> .ok (.int 2147483563)) ig) (aV 3)) (bA (bV (bin (bin (bin (λ ρ=>ak ρ 3) (λ ρ=>ak ρ 3) ji) (bin (λ ρ=>ak ρ 3) (λ Z=> .ok (.int 3)) jw) fY) (λ Z=> .ok (.int 2147483399)) ig) (aV 3)) (retS (bin (bin (bin (bin (bin (λ ρ=>ak ρ 3) (λ ρ=>ak ρ 3) ji) (bin (λ ρ=>ak ρ 3) (λ Z=> .ok (.int 7)) jw) fY) (λ Z=> .ok (.int 2147483647)) ig) (λ Z=> .ok (.int 11)) jw) (λ ρ=>ak ρ 2) ig))))))
noncomputable def tailD:aq->So:=(bA (bV (bin (bin (bin (bin (λ ρ=>ak ρ 3) (λ Z=> .ok (.int 2147483563)) ig) (λ Z=> .ok (.int 69069)) ji) (bin (λ Z=> .ok (.int 104723)) (bin (λ ρ=>ak ρ 1) (λ Z=> .ok (.int 1)) fY) ji) fY) (λ Z=> .ok (.int 2147483563)) ig) (aV 3)) (bA (bV (bin (bin (bin (λ ρ=>ak ρ 3) (λ ρ=>ak ρ 3) ji) (bin (λ ρ=>ak ρ 3) (λ Z=> .ok (.int 3)) jw) fY) (λ Z=> .ok (.int 2147483399)) ig) (aV 3)) (retS (bin (bin (bin (bin (bin (λ ρ=>ak ρ 3) (λ ρ=>ak ρ 3) ji) (bin (λ ρ=>ak ρ 3) (λ Z=> .ok (.int 7)) jw) fY) (λ Z=> .ok (.int 2147483647)) ig) (λ Z=> .ok (.int 11)) jw) (λ ρ=>ak ρ 2) ig))))
noncomputable def aiX:aq->So:=(gj (o7 (cL (bin (λ ρ=>ak ρ 3) (bin (λ Z=> .ok (.int 10)) (λ Z=> .ok (.int 18)) xr) geI)) (cL (bin (λ ρ=>ak ρ 4) (λ Z=> .ok (.int 60)) ltI))) (bA (bV (bin (λ ρ=>ak ρ 3) (bin (λ Z=> .ok (.int 10)) (λ Z=> .ok (.int 18)) xr) jw) (aV 5)) (bA (jk (o7 (cL (bin (λ ρ=>ak ρ 5) (λ Z=> .ok (.int 0)) zf)) (cL (bin (λ ρ=>ak ρ 4) (λ Z=> .ok (.int 0)) zf))) (bA (bV (bin (λ ρ=>ak ρ 5) (λ Z=> .ok (.int 1000000)) jw) (aV 5)) (bV (bin (λ ρ=>ak ρ 4) (λ Z=> .ok (.int 1)) dX) (aV 4))) 64) (gj (cL (bin (λ ρ=>ak ρ 5) (λ Z=> .ok (.int 0)) zf)) (retS (bin (bin (λ ρ=>ak ρ 5) (λ Z=> .ok (.int 1000000)) ig) (λ ρ=>ak ρ 2) ig)) So.nx))) So.nx)
noncomputable def wcD:aq->R Bool:=(o7 (cL (bin (λ ρ=>ak ρ 5) (λ Z=> .ok (.int 0)) zf)) (cL (bin (λ ρ=>ak ρ 4) (λ Z=> .ok (.int 0)) zf)))
noncomputable def wbD:aq->So:=(bA (bV (bin (λ ρ=>ak ρ 5) (λ Z=> .ok (.int 1000000)) jw) (aV 5)) (bV (bin (λ ρ=>ak ρ 4) (λ Z=> .ok (.int 1)) dX) (aV 4)))
section
variable {S s0 s1 s2 s3 x y:Option Ent} {k m c:Int}
theorem tail_eq (hm:0 < m):∃v,tailD [S,some (.val (.int k)),some (.val (.int m)),some (.val (.int c)),x,y]= .rt (.int v)/\0<=v/\v < m:=by
 refine⟨_,aM (bH (au (au (au (au rfl rfl (pU (by exact z0a _))) rfl (nY (.inr ⟨by exact z0a _,by exact z0a _⟩))) (au rfl (au rfl rfl rfl) (nY (.inl ⟨by exact z0a _,by exact z0a _⟩))) rfl) rfl (pU (by exact z0a _))) rfl)
  (aM (bH (au (au (au rfl rfl (nY (.inl ?b1))) (au rfl rfl (pR ⟨by exact z0a _,by exact z0a _⟩)) rfl) rfl (pU (by exact z0a _))) rfl)
  (bN (au (au (au (au (au rfl rfl (nY (.inl ?b2))) (au rfl rfl (pR ⟨by exact z0a _,by exact z0a _⟩)) rfl) rfl (pU (by exact z0a _))) rfl (pR ⟨by exact z0a _,by exact z0a _⟩)) rfl (pU hm)))),Int.emod_nonneg _ (by exact oq5 hm),Int.emod_lt_of_pos _ hm⟩
 case b1=>
  have h1:=Int.emod_nonneg (c % 2147483563*69069+104723*(k+1)) (b:=2147483563) (by exact aj4)
  have h2:=Int.emod_lt_of_pos (c % 2147483563*69069+104723*(k+1)) (b:=2147483563) (by exact z0a _)
  first |exact ⟨h1,Int.lt_trans h2 (by decide)⟩ |exact ⟨Int.lt_of_lt_of_le (by decide) h1,Int.lt_trans h2 (by decide)⟩ |constructor <;> omega
 case b2=>
  generalize (c % 2147483563*69069+104723*(k+1)) % 2147483563=z
  have h1:=Int.emod_nonneg (z*z+z / 3) (b:=2147483399) (by exact aj5)
  have h2:=Int.emod_lt_of_pos (z*z+z / 3) (b:=2147483399) (by exact z0a _)
  first |exact ⟨h1,Int.lt_trans h2 (by decide)⟩ |exact ⟨Int.lt_of_lt_of_le (by decide) h1,Int.lt_trans h2 (by decide)⟩ |constructor <;> omega
theorem Am {i j:Int}:zf (.int i) (.int j)= .ok (.bl (decide (j < i))):=rfl
theorem T8:∀{n:Nat} {t r:Int},0<=t->t < n->∃t' r',jk wcD wbD n [s0,s1,s2,s3,some (.val (.int t)),some (.val (.int r))]= .nx [s0,s1,s2,s3,some (.val (.int t')),some (.val (.int r'))]
 |0,t,r,h0,h1=>by exact (aj6 h0 h1).elim
 | n + 1,t,r,h0,h1=>by
  rw[Td]
  by_cases hr:0 < r
  ·by_cases ht:0 < t
   ·obtain⟨t',r',e⟩:=T8 (n:=n) (t:=t - 1) (r:=r / 1000000) (by exact aj8 ht) (by exact aj7 h1)
    refine⟨t',r',?_⟩
    have e1:wcD (cX [s0,s1,s2,s3,some (.val (.int t)),some (.val (.int r))])= .ok true:=pB (bw (au rfl rfl (by rw[Am,decide_eq_true hr]))) (bw (au rfl rfl (by rw[Am,decide_eq_true ht])))
    have e2:wbD [s0,s1,s2,s3,some (.val (.int t)),some (.val (.int r))]= .nx [s0,s1,s2,s3,some (.val (.int (t - 1))),some (.val (.int (r / 1000000)))]:=aM (bH (au rfl rfl (pR ⟨by exact z0a _,by exact z0a _⟩)) rfl) (bH (au rfl rfl rfl) rfl)
    simp only[e1,e2]
    exact e
   ·refine⟨t,r,?_⟩
    have e1:wcD (cX [s0,s1,s2,s3,some (.val (.int t)),some (.val (.int r))])= .ok false:=pB (bw (au rfl rfl (by rw[Am,decide_eq_true hr]))) (bw (au rfl rfl (by rw[Am,decide_eq_false ht])))
    simp only[e1]
  ·refine⟨t,r,?_⟩
   have e1:wcD (cX [s0,s1,s2,s3,some (.val (.int t)),some (.val (.int r))])= .ok false:=Ho (bw (au rfl rfl (by rw[Am,decide_eq_false hr])))
   simp only[e1]
theorem J6:xr (.int 10) (.int 18)= .ok (.int 1000000000000000000):=by
 unfold xr iD
 simp only[]
 rw[if_pos ⟨by decide,by decide,by decide⟩];rfl
theorem aiY {t:Int} (hm:0 < m) (ht:0<=t):(∃t' x',aiX [S,some (.val (.int k)),some (.val (.int m)),some (.val (.int c)),some (.val (.int t)),x]= .nx [S,some (.val (.int k)),some (.val (.int m)),some (.val (.int c)),some (.val (.int t')),x'])\/
  ∃v,aiX [S,some (.val (.int k)),some (.val (.int m)),some (.val (.int c)),some (.val (.int t)),x]= .rt (.int v)/\0<=v/\v < m:=by
 by_cases h1:1000000000000000000<=c
 ·by_cases h2:t < 60
  ·have e:(o7 (cL (bin (λ ρ=>ak ρ 3) (bin (λ Z=> .ok (.int 10)) (λ Z=> .ok (.int 18)) xr) geI)) (cL (bin (λ ρ=>ak ρ 4) (λ Z=> .ok (.int 60)) ltI))) (cX [S,some (.val (.int k)),some (.val (.int m)),some (.val (.int c)),some (.val (.int t)),x])= .ok true:=
    pB (bw (au rfl (au rfl rfl J6) (by show R.ok (D.bl (decide _))=_;rw[decide_eq_true h1]))) (bw (au rfl rfl (by show R.ok (D.bl (decide _))=_;rw[decide_eq_true h2])))
   obtain⟨t',r',ew⟩:=T8 (s0:=S) (s1:=some (.val (.int k))) (s2:=some (.val (.int m))) (s3:=some (.val (.int c))) (n:=64) (t:=t) (r:=c / 1000000000000000000) ht (by exact aj9 h2)
   by_cases h3:0 < r'
   ·exact .inr ⟨_,eO e (aM (bH (au rfl (au rfl rfl J6) (pR ⟨by exact z0a _,by exact z0a _⟩)) rfl) (aM ew (eO (bw (au rfl rfl (by rw[Am,decide_eq_true h3]))) (bN (au (au rfl rfl (pU (by exact z0a _))) rfl (pU hm)))))),Int.emod_nonneg _ (by exact oq5 hm),Int.emod_lt_of_pos _ hm⟩
   ·exact .inl ⟨t',some (.val (.int r')),eO e (aM (bH (au rfl (au rfl rfl J6) (pR ⟨by exact z0a _,by exact z0a _⟩)) rfl) (aM ew (cZ (bw (au rfl rfl (by rw[Am,decide_eq_false h3]))) rfl)))⟩
  ·exact .inl ⟨t,x,cZ (pB (bw (au rfl (au rfl rfl J6) (by show R.ok (D.bl (decide _))=_;rw[decide_eq_true h1]))) (bw (au rfl rfl (by show R.ok (D.bl (decide _))=_;rw[decide_eq_false h2])))) rfl⟩
 ·exact .inl ⟨t,x,cZ (Ho (bw (au rfl (au rfl rfl J6) (by show R.ok (D.bl (decide _))=_;rw[decide_eq_false h1])))) rfl⟩
end
theorem jX {ρ:aq} {s t:aq->So} {d:D} (e1:s ρ= .rt d):bA s t ρ= .rt d:=by rw[bA,e1]
theorem zA {xs:List D} {i:Int} {d:D} (h:atI xs i=some d):bZ (.lst xs) (.int i)= .ok d:=by
 show (match (L2.atI _ _:Option D) with |some d=>R.ok d |none=>R.bad)=_
 rw[h]
theorem afl {ns:List Int} {k m:Int} (hl:ns.length<=1000000) (hk:0<=k) (hm:0 < m):∃v,cT 3 MP [.lst (ns.map .int),.int k,.int m]= .ok (.int v)/\0<=v/\v < m:=by
 have hd:dep (.lst (ns.map .int))<=40:=by
  first |rw [jr] |rw [jt]
  have:=zu (c:=D.int) (n:=0) (l:=ns) (λ a Z=>by simp[jr,jt,uo,uq,ur,uw])
  exact akb this
 cases ns with
 | nil=>
  obtain⟨v,e,h⟩:=tail_eq (S:=some (.val (.lst []))) (k:=k) (c:=7*k) (x:=none) (y:=none) hm
  exact⟨v,cH (aM (bH (au rfl rfl (nY (.inl ⟨by exact z0a _,by exact z0a _⟩))) rfl) (aM (cZ (bw (au rfl (iB rfl) (qI rfl hd))) rfl) e)),h⟩
 | cons a ns=>
  have hn:jW (.lst ((a::ns).map .int)) (.lst [])= .ok (.bl true):=by
   rw[jW,if_pos hd];rfl
  have hlen:(0:Int) < (((a::ns).map D.int).length:Int):=by rw[List.length_map,List.length_cons];exact akc
  have hlen2:(((a::ns).map D.int).length:Int) < 2 ^ 64:=by rw[List.length_map];omega
  obtain⟨d,hd1,hd2⟩:=Hl (xs:=(a::ns).map D.int) (i:=k % (((a::ns).map D.int).length:Int)) (Int.emod_nonneg _ (by omega)) (Int.emod_lt_of_pos _ hlen)
  obtain⟨c,-,rfl⟩:=List.mem_map.mp hd1
  have ht:0<=k / (((a::ns).map D.int).length:Int):=Int.ediv_nonneg hk (by omega)
  generalize hL:(((a::ns).map D.int).length:Int)=L at *
  have J7:∀(S x1 x2 x3 x4 x5:Option Ent),S=some (Ent.val (.lst ((a::ns).map D.int)))->aF cM (ao (λ ρ=>ak ρ 0) (λ Z=> .ok [])) [S,x1,x2,x3,x4,x5]= .ok (.int L):=by
   intro S x1 x2 x3 x4 x5 e
   subst e
   rw[<-hL]
   exact bx (aB rfl) rfl
  rcases aiY (S:=some (.val (.lst ((a::ns).map .int)))) (k:=k) (m:=m) (c:=c) (x:=none) hm ht with⟨t',x',e⟩ |⟨v,e,h⟩
  ·obtain⟨v,e2,h⟩:=tail_eq (S:=some (.val (.lst ((a::ns).map .int)))) (k:=k) (c:=c+6553*(k / L)) (x:=some (.val (.int t'))) (y:=x') hm
   exact⟨v,cH (aM (bH (au rfl rfl (nY (.inl ⟨by exact z0a _,by exact z0a _⟩))) rfl) (aM (eO (bw (au rfl (iB rfl) hn))
    (aM (bH (au rfl (au rfl (J7 _ _ _ _ _ _ rfl) (pU hlen)) (zA hd2)) rfl) (aM (bH (au rfl (J7 _ _ _ _ _ _ rfl) (pR ⟨hlen,hlen2⟩)) rfl) (aM e (bH (au rfl (au rfl (au rfl (J7 _ _ _ _ _ _ rfl) (pR ⟨hlen,hlen2⟩)) (nY (.inl ⟨by exact z0a _,by exact z0a _⟩))) rfl) rfl))))) e2)),h⟩
  ·exact⟨v,cH (aM (bH (au rfl rfl (nY (.inl ⟨by exact z0a _,by exact z0a _⟩))) rfl) (jX (eO (bw (au rfl (iB rfl) hn))
    (aM (bH (au rfl (au rfl (J7 _ _ _ _ _ _ rfl) (pU hlen)) (zA hd2)) rfl) (aM (bH (au rfl (J7 _ _ _ _ _ _ rfl) (pR ⟨hlen,hlen2⟩)) rfl) (jX e)))))),h⟩
theorem iU {ρ ρ1 ρ2:aq} {gt:D->aq->R aq} {b:aq->So} {x:D} {xs:List D} {o:So} (e1:gt x ρ= .ok ρ1) (e2:b ρ1= .nx ρ2) (e3:forL gt b xs ρ2=o):forL gt b (x::xs) ρ=o:=by
 rw[aiQ]
 simp only[e1,e2]
 exact e3
theorem nZ {ρ:aq} {fi:aq->R (List D)} {gt:D->aq->R aq} {b:aq->So} {xs:List D} {o:So} (e1:fi ρ= .ok xs) (e2:forL gt b xs ρ=o):pN fi gt b ρ=o:=by
 rw[pN,e1];exact e2
theorem ag3 {ρ:aq} {i k:Nat} {f:aq->R D} {fa:aq->R (List D)} {d:D} {ds:List D} (e1:f ρ= .ok d) (e2:fa ρ= .ok ds) (h:autoParam (ds.length<=1000000) ap7._auto_1):T4 i k f fa ρ= .nx ((ρ.set i (some (.val d))).set k (some (.lst ds))):=by
 unfold T4
 rw[e1]
 simp only[nP,e2]
 rw[if_pos h]
theorem uJ {ρ:aq} {i k:Nat} {f g:aq->R D} {d e:D} (e1:f ρ= .ok d) (e2:g ρ= .ok e):Ak i k f g ρ= .nx ((ρ.set i (some (.val d))).set k (some (.val e))):=by
 unfold Ak
 rw[e1]
 simp only[nP,e2]
noncomputable def dr (ns:List Int) (k m:Int):Int:=match cT 3 MP [.lst (ns.map .int),.int k,.int m] with
 | .ok (.int v)=>v
 |_=>0
theorem pW {ns:List Int} {k m:Int} (hl:ns.length<=1000000) (hk:0<=k) (hm:0 < m):cT 3 MP [.lst (ns.map .int),.int k,.int m]= .ok (.int (dr ns k m))/\0<=dr ns k m/\dr ns k m < m:=by
 obtain⟨v,e,h⟩:=afl hl hk hm
 have:dr ns k m=v:=by rw[dr,e]
 rw[this]
 exact⟨e,h⟩
end Pu
namespace Pu
open PySem PySem.Spec L2
open PyProof.Rows hiding St
section
variable {X:Cx}
noncomputable def u9:List D->R D:=aaL λ i=> .ok (.int (if i < 0 then -i else i))
theorem aoz (i:Int):u9 [.int i]=(.ok (.int (if i < 0 then -i else i))):=rfl
theorem zB:CallD X (.builtin "abs") u9:=by
 refine⟨_,call_abs,λ ρ O σ H Q xs ds j r h=>?_⟩
 replace h:=Mt h
 obtain⟨i,rfl,h⟩:=h
 obtain⟨x,rfl,rx⟩:=r.one
 exact⟨i,by rw[rx.int],fin h (cO _)⟩
noncomputable def maxD:List D->R D:=aaM λ i j=> .ok (.int (if j > i then j else i))
theorem aoA (i j:Int):maxD [.int i,.int j]=(.ok (.int (if j > i then j else i))):=rfl
theorem zE (hc:X.calm=true):CallD X (.builtin "max") maxD:=by
 refine⟨_,call_max2 hc,λ ρ O σ H Q xs ds j r h=>?_⟩
 replace h:=Mu h
 obtain⟨i,k,rfl,h⟩:=h
 obtain⟨x,y,rfl,rx,ry⟩:=r.two
 exact⟨i,k,by rw[rx.int,ry.int],fin h (cO _)⟩
noncomputable def minD:List D->R D:=aaM λ i j=> .ok (.int (if j < i then j else i))
theorem aoB (i j:Int):minD [.int i,.int j]=(.ok (.int (if j < i then j else i))):=rfl
theorem Dt (hc:X.calm=true):CallD X (.builtin "min") minD:=by
 refine⟨_,call_min2 hc,λ ρ O σ H Q xs ds j r h=>?_⟩
 replace h:=Mu h
 obtain⟨i,k,rfl,h⟩:=h
 obtain⟨x,y,rfl,rx,ry⟩:=r.two
 exact⟨i,k,by rw[rx.int,ry.int],fin h (cO _)⟩
noncomputable def J8:D->Bool
 | .non=>true
 |_=>false
theorem Z5 {K:PySem.W.Frag} {O:Addr->Prop} {H:Hp} {d:D} {v:V} (r:Rep K O H d v):decide (v= .non)=J8 d:=by
 cases d with
 |non=>rw[r.non];rfl
 |bl b=>rw[r.bl];rfl
 |int i=>rw[r.int];rfl
 |str x=>rw[r.str];rfl
 |tup ds=>obtain⟨a,xs,rfl,_⟩:=r.tup;rfl
 |lst ds=>obtain⟨a,xs,rfl,_⟩:=r.lst;rfl
noncomputable def isD:D->D->R D
 |d,.non=> .ok (.bl (J8 d))
 |_,_=> .bad
noncomputable def adk:D->D->R D
 |d,.non=> .ok (.bl (!J8 d))
 |_,_=> .bad
theorem Hr:kJ X (compareOp .Is) isD:=by
 refine⟨_,op_isN,λ ρ O σ H Q x y dx dy j0 rx ry h=>?_⟩
 cases dy with
 |non=>exact⟨ry.non,by rw[Z5 rx];exact fin (a:=D.bl (J8 dx)) h (gb _)⟩
 |_=>cases dx <;> exact h.elim
theorem afm:kJ X (compareOp .IsNot) adk:=by
 refine⟨_,op_notN,λ ρ O σ H Q x y dx dy j0 rx ry h=>?_⟩
 cases dy with
 |non=>exact⟨ry.non,by rw[Z5 rx];exact fin (a:=D.bl (!J8 dx)) h (gb _)⟩
 |_=>cases dx <;> exact h.elim
theorem ag4:OpR X (binaryOp .Add) (λ x y H Q=>∃a b ys,x= .ref a/\y= .ref b/\SqT X.K H a []/\SqT X.K H b ys/\Q (.ref b) H):=by
 intro pins s σ H x y v u Q I rx ry h
 refine bc λ zQ=>?_
 obtain⟨a,b,ys,rfl,rfl,ha,hb,q⟩:=h
 apply zQ;clear zQ
 obtain rfl:=rx
 obtain rfl:=ry
 refine bc λ zQ=>?_
 obtain⟨its,r1,p1,_⟩:=I.tuple ha
 obtain⟨its2,r2,p2,_⟩:=I.tuple hb
 apply zQ;clear zQ
 cases r1
 refine bc λ zQ=>?_
 obtain⟨⟨cls,dd,data,sl⟩,ho,hc,n,hd⟩:=id p1
 obtain⟨⟨cls2,dd2,data2,sl2⟩,ho2,hc2,n2,hd2⟩:=id p2
 apply zQ;clear zQ
 simp only at hc hd hc2 hd2
 subst hc hd hc2 hd2
 exact concat_meets ⟨_,ho,rfl⟩ ⟨_,ho2,rfl⟩ noFill_tuple_add seq_tuple_add PySem.F.slot_tuple_add PySem.F.entry_tuple_add (PySem.F.args_tuple_add_2 _ _)
   (tuple_addW0 a b _ _ n n2 dd dd2 sl sl2 rfl) ⟨ho,ho2,⟨.ref b,H,I,rfl,q⟩⟩
noncomputable def aoj:D->R D
 | .int i=> .ok (.int (-i))
 |_=> .bad
noncomputable def tu (f:aq->R D):aq->R D:=λ ρ=>(f ρ).bind aoj
theorem zF {e:Expr} {f:aq->R D} {pos:Pos} (he:DE X e f):DE X (.UnaryOp .USub e pos) (tu f):=by
 refine PE.imp (pe_un un_neg he) λ σ H Q h=>?_
 obtain⟨ρ,O,j,h⟩:=h
 refine go j h λ d v H1 e1 s1 r1 j1 h1=>?_
 cases d with
 |int i=>exact⟨i,r1.int,fin h1 (cO _)⟩
 |_=>exact h1.elim
theorem ag5:OpR X (binaryOp .Add) (λ x y H Q=>∃a b xs ys,x= .ref a/\y= .ref b/\SqL X.K H a xs/\SqL X.K H b ys/\xs.length+ys.length<=sizeLine/\∀p,H p=none->Q (.ref p) (upd H p (.lst (xs++ys)))):=by
 intro pins s σ H x y v u Q I rx ry h
 refine bc λ zQ=>?_
 obtain⟨a,b,xs,ys,rfl,rfl,ha,hb,hz,q⟩:=h
 apply zQ;clear zQ
 obtain rfl:=rx
 obtain rfl:=ry
 refine bc λ zQ=>?_
 obtain⟨its,r1,p1,_⟩:=I.list ha
 obtain⟨its2,r2,p2,_⟩:=I.list hb
 obtain⟨⟨cls,dd,data,sl⟩,n,ho,hc,hdd,hd⟩:=id p1
 obtain⟨⟨cls2,dd2,data2,sl2⟩,n2,ho2,hc2,aoI,hd2⟩:=id p2
 apply zQ;clear zQ
 simp only at hc hd hc2 hd2
 subst hc hd hc2 hd2
 refine concat_meets ⟨_,ho,rfl⟩ ⟨_,ho2,rfl⟩ noFill_list_add seq_list_add PySem.F.slot_list_add PySem.F.entry_list_add (PySem.F.args_list_add_2 _ _)
   (list_addW a b _ _ n n2 dd dd2 sl sl2 (by rw[List.size_toArray,List.size_toArray,<-r1.length,<-r2.length];exact hz)) ⟨ho,ho2,?_⟩
 have ea:its.toArray++its2.toArray=(its++its2).toArray:=by simp
 rw[ea]
 exact⟨.ref _,_,I.lnew (t':=s.toks) (r1.append r2) (by rw[List.length_append];assumption),rfl,q _ I.fresh⟩
noncomputable def cF:D->D->R D
 | .int i,.int j=> .ok (.int (i+j))
 | .tup xs,.tup ys=>if xs.length+ys.length<=1000000 then .ok (.tup (xs++ys)) else .bad
 | .lst xs,.lst ys=>if xs.length+ys.length<=1000000 then .ok (.lst (xs++ys)) else .bad
 |_,_=> .bad
set_option tactic.hygienic true in
theorem cu:kJ X (binaryOp .Add) cF:=by
 refine⟨_,OpR.or op_add (OpR.or op_catT (OpR.or ag4 ag5)),λ ρ O σ H Q x y dx dy j0 rx ry h=>?_⟩
 cases dx <;> cases dy <;> first
  |exact h.elim
  |skip
 ·rename_i i j
  exact .inl ⟨i,j,rx.int,ry.int,fin h (cO _)⟩
 ·rename_i xs ys
  have h:good X (rD X) O (if xs.length+ys.length<=1000000 then .ok (.tup (xs++ys)) else .bad) σ H Q:=h
  by_cases hc:xs.length+ys.length<=1000000
  ·rw [if_pos hc] at h
   obtain⟨a,us,rfl,ha,r1⟩:=rx.tup
   obtain⟨b,ws,rfl,hb,r2⟩:=ry.tup
   by_cases hx:us=[]
   ·subst hx
    have:xs=[]:=List.eq_nil_of_length_eq_zero r1.length
    subst this
    exact .inr (.inr (.inl ⟨a,b,ws,rfl,rfl,ha,hb,fin h (jz hb r2)⟩))
   ·refine .inr (.inl ⟨a,b,us,ws,rfl,rfl,ha,hb,hx,?_,λ z=>?_,λ z l hl=>?_⟩)
    ·rw[<-r1.length,<-r2.length];exact z0b hc iT
    ·subst z
     have:ys=[]:=List.eq_nil_of_length_eq_zero r2.length
     subst this
     rw[List.append_nil] at h
     exact fin h (jz ha r1)
    ·exact h _ _ (Same.upd hl) (Rep.uH hl (r1.append r2))
  ·rw[if_neg hc] at h;exact h.elim
 ·rename_i xs ys
  have h:good X (rD X) O (if xs.length+ys.length<=1000000 then .ok (.lst (xs++ys)) else .bad) σ H Q:=h
  by_cases hc:xs.length+ys.length<=1000000
  ·rw[if_pos hc] at h
   obtain⟨a,us,rfl,ha,_,r1⟩:=rx.lst
   obtain⟨b,ws,rfl,hb,_,r2⟩:=ry.lst
   refine .inr (.inr (.inr ⟨a,b,us,ws,rfl,rfl,ha,hb,?_,λ l hl=>?_⟩))
   ·rw[<-r1.length,<-r2.length];exact z0b hc iT
   ·exact h _ _ (Same.upd hl) (Rep.uI hl (j0.Dh hl) (r1.append r2))
  ·rw[if_neg hc] at h;exact h.elim
end
section
variable {prog:Program} {w:World} {A:Around} {E:Value->Shared->Prop} {s:Shared}
open HT in
theorem Df {t sl:Addr} {items:Array Value} {vl vu:Value} {lo hi:Option Int} {Q:Value->Shared->Prop} (ht:IsTup s.heap t items) (hs:s.heap.IsSliceOf sl vl vu .none) (pl:IsPart vl lo) (pu:IsPart vu hi)
  (hw:sIx items.size 0 lo=0/\sIx items.size items.size hi=items.size) (h:Q (.ref t) s):wpAny (model prog w) A (getItem (.ref t) (.ref sl)) Q E s:=by
 obtain⟨os,hos,hcs,hds⟩:=id hs
 have hTs:s.TypeIs (.ref sl) "slice" :=⟨os,hos,hcs⟩
 unfold getItem
 try with_reducible refine wpAny_holding ?_
 first |refine wpAny_bind (wpAny_pure ?_) |skip
 refine wpAny_bind (wpAny_sequenceKey ht.typeIs (by decide) ?_)
 refine wpAny_bind (wpAny_callSpecial?_slot (name:=Str.ofString "__getitem__") ht.typeIs PyProof.Rows.slot_tuple_getitem
  (wpAny_call_entry PyProof.Rows.slot_tuple_getitem ht.typeIs entry_tuple_getitem ?_ (args_tuple_getitem _ _)))
 show wpAny _ _ (Builtin.Tuple.tupleItemsOf (.ref t) >>=_) _ _ s
 refine wpAny_bind (tupleItemsOf_ ht ?_)
 refine wpAny_bind (wpAny_typeOf hTs ?_)
 rw[if_pos (by decide)]
 refine wpAny_bind (sliceApplied_gen hs pl pu ?_)
 show wpAny _ _ (if (((sIx items.size 0 lo:Nat):Int) ==0 && (1:Int) ==1 && (sIx items.size items.size hi - sIx items.size 0 lo) ==items.size)=true then _ else _) _ _ s
 rw[if_pos (by rw[hw.1,hw.2];simp)]
 refine wpAny_bind (m:=Builtin.Tuple.tupleIsExact _) (wpAny_bind (wpAny_typeOf ht.typeIs (wpAny_pure ?_)))
 rw[if_pos (beq_self_eq_true _)]
 first
  |exact wpAny_bind (wpAny_pure (wpAny_pure ⟨_,rfl,wpAny_pure h⟩))
  |exact wpAny_bind (wpAny_rule (wpAny_pure ⟨_,rfl,wpAny_pure h⟩))
end
section
variable {X:Cx} {e e1:Expr} {lo hi:Option Expr} {f f1:aq->R D} {fl fu:aq->R (Option Int)} {pos p2:Pos}
noncomputable def aok (K:PySem.W.Frag):V->Option Int->Option Int->Hp->VK->Prop:=λ x lo hi H Q=>∃a xs,x= .ref a/\SqT K H a xs/\
 (HT.sIx xs.length 0 lo=0/\HT.sIx xs.length xs.length hi=xs.length)/\Q (.ref a) H
theorem ag6:SlR X (aok X.K):=by
 intro pins s σ H x v vl vu lo hi sl Q I rx hs pl pu h
 refine bc λ zQ=>?_
 obtain⟨a,xs,rfl,hx,hw,q⟩:=h
 apply zQ;clear zQ
 obtain rfl:=rx
 refine bc λ zQ=>?_
 obtain⟨its,r,ht,hz⟩:=I.tuple hx
 apply zQ;clear zQ
 have hlen:its.toArray.size=xs.length:=by rw[List.size_toArray];exact r.length.symm
 exact⟨"tuple",_,PyProof.Rows.slot_tuple_getitem.lookup,ht.typeIs,Df ht hs pl pu (by rw[hlen];exact hw) ⟨.ref a,H,I,rfl,q⟩⟩
noncomputable abbrev aol:(Addr->Prop)->Hp->Option Int->Option Int->Prop:=λ Z Z a b=>a=b
noncomputable def Z6 (X:Cx) (lo:Option Expr) (fo:aq->R (Option Int)):Prop:=PO X lo (tG X aol fo)
theorem PO.imp {t t':TO} (h:PO X lo t) (w:∀σ H Q,t' σ H Q->t σ H Q):PO X lo t':=λ pins s σ H Q I q=>h pins s σ H Q I (w σ H Q q)
theorem jP:Z6 X none (λ Z=> .ok none):=by
 refine PO.imp po_none λ σ H Q h=>?_
 obtain⟨ρ,O,j,h⟩:=h
 exact fin h rfl
noncomputable def ou:D->R (Option Int)
 | .int i=> .ok (some i)
 |_=> .bad
theorem jQ (h:DE X e1 f1):Z6 X (some e1) (λ ρ=>(f1 ρ).bind ou):=by
 refine PO.imp (po_some h) λ σ H Q h=>?_
 obtain⟨ρ,O,j,h⟩:=h
 refine go j h λ d v H1 e1 s1 r1 j1 h1=>?_
 cases d with
 |int i=>exact⟨i,r1.int,fin h1 rfl⟩
 |_=>exact h1.elim
noncomputable def lg (ds:List D) (lo hi:Option Int):List D:=(ds.drop (HT.sIx ds.length 0 lo)).take (HT.sIx ds.length ds.length hi - HT.sIx ds.length 0 lo)
noncomputable def T9 (d:D) (lo hi:Option Int):R D:=match d with
 | .tup ds=> .ok (.tup (lg ds lo hi))
 |_=> .bad
noncomputable def dG (f:aq->R D) (fl fu:aq->R (Option Int)):aq->R D:=λ ρ=>(f ρ).bind λ d=>(fl ρ).bind λ l=>(fu ρ).bind λ u=>T9 d l u
theorem mO (he:DE X e f) (hl:Z6 X lo fl) (hu:Z6 X hi fu):DE X (.Subscript e (.Slice lo hi none p2) pos) (dG f fl fu):=by
 refine PE.imp (pe_slice (SlR.or sl_tup ag6) he hl hu) λ σ H Q h=>?_
 obtain⟨ρ,O,j,h⟩:=h
 refine go j h λ d v H1 e1 s1 r1 j1 h1=>?_
 refine go j1 h1 λ l l' H2 e2 s2 r2 j2 h2=>?_
 refine go j2 h2 λ u u' H3 e3 s3 r3 j3 h3=>?_
 have r2:l=l':=r2
 have r3:u=u':=r3
 subst r2 r3
 cases d with
 | tup ds=>
  have r1':=(r1.same s2).same s3
  obtain⟨a,xs,rfl,hq,rs⟩:=r1'.tup
  have hlen:=rs.length
  by_cases hw:HT.sIx xs.length 0 l=0/\HT.sIx xs.length xs.length u=xs.length
  ·refine .inr ⟨a,xs,rfl,hq,hw,?_⟩
   have e:lg ds l u=ds:=by
    unfold lg
    rw[hlen,hw.1,hw.2,List.drop_zero,Nat.sub_zero,<-hlen,List.take_length]
   have h3:good X (rD X) O (.ok (.tup (lg ds l u))) σ H3 Q:=h3
   rw[e] at h3
   exact fin h3 (jz hq rs)
  ·refine .inl ⟨a,xs,rfl,hq,hw,λ p hp=>?_⟩
   refine h3 _ _ (Same.upd hp) (Rep.uH hp ?_)
   unfold lg cutV
   rw[hlen]
   exact (rs.drop _).take _
 |_=>exact h3.elim
end
end Pu
namespace Pu
open PySem PySem.Spec L2
open PyProof.Rows hiding St
noncomputable def pickK {α:Type} (z:α) (sel:List (Sum Nat α)) (ws:List α):List α:=sel.map λ
 | .inl i=>ws.getD i z
 | .inr c=>c
inductive Sel:List (Sum Nat Value)->List (Sum Nat V)->List (Sum Nat D)->Prop
 |nil:Sel [] [] []
 |at (i:Nat) {a b c}:Sel a b c->Sel (.inl i::a) (.inl i::b) (.inl i::c)
 |non {a b c}:Sel a b c->Sel (.inr .none::a) (.inr .non::b) (.inr .non::c)
 |str (x:Str) (t:Tok) {a b c}:Sel a b c->Sel (.inr (.str x t)::a) (.inr (.str x)::b) (.inr (.str x)::c)
 |int (x:Int) (t:Tok) {a b c}:Sel a b c->Sel (.inr (.int x t)::a) (.inr (.int x)::b) (.inr (.int x)::c)
 |bl (x:Bool) {a b c}:Sel a b c->Sel (.inr (.bool x)::a) (.inr (.bl x)::b) (.inr (.bl x)::c)
theorem adl {zs:List V} {ws:List Value} (r:Vals zs ws) (i:Nat):RelV (zs.getD i .non) (ws.getD i .none):=by
 induction r generalizing i with
 |nil=>exact rfl
 | cons h _ ih=>
  cases i with
  |zero=>exact h
  |succ i=>exact ih i
theorem Sel.vals {a b c} (s:Sel a b c) {zs:List V} {ws:List Value} (r:Vals zs ws):Vals (pickK .non b zs) (pickK .none a ws):=by
 induction s with
 |nil=>exact .nil
 | «at» i _ ih=>exact .cons (adl r i) ih
 |non _ ih=>exact .cons rfl ih
 |str x t _ ih=>exact .cons ⟨t,rfl⟩ ih
 |int x t _ ih=>exact .cons ⟨t,rfl⟩ ih
 |bl x _ ih=>exact .cons rfl ih
section
variable {K:PySem.W.Frag} {O:Addr->Prop} {H:Hp}
theorem P0:∀{ds:List D} {zs:List V},aZ K O H ds zs->∀i:Nat,Rep K O H (ds.getD i .non) (zs.getD i .non)
 |[],zs,r,i=>by rw[r.nil_inv];exact uF
 | d::ds,zs,r,i=>by
  obtain⟨x,t,rfl,h1,h2⟩:=r.cons_inv
  cases i with
  |zero=>exact h1
  |succ i=>exact P0 h2 i
theorem Sel.reps {a b c} (s:Sel a b c) {ds:List D} {zs:List V} (r:aZ K O H ds zs):aZ K O H (pickK .non c ds) (pickK .non b zs):=by
 induction s with
 |nil=>exact .nil
 | «at» i _ ih=>exact .cons (P0 r i) ih
 |non _ ih=>exact .cons uF ih
 |str x t _ ih=>exact .cons (Mr x) ih
 |int x t _ ih=>exact .cons (cO x) ih
 |bl x _ ih=>exact .cons (gb x) ih
end
section
variable {X:Cx} {k n:Nat} {f:Addr} {fd:FuncData} {ps ks:List Str} {F:List D->R D} {x:Str} {p pos kpos:Pos} {e:Expr} {es:List Expr} {kws:List Keyword} {fa fk:aq->R (List D)} {fe:aq->R D} {nm:Option Str}
noncomputable def DK (X:Cx) (kws:List Keyword) (fk:aq->R (List D)):Prop:=PK X kws (tG X (ZR X) fk)
theorem PK.imp {t t':TA} (h:PK X kws t) (w:∀σ H Q,t' σ H Q->t σ H Q):PK X kws t':=λ pos pins s σ H Q I q=>h pos pins s σ H Q I (w σ H Q q)
theorem aiZ:DK X [] (λ Z=> .ok []):=by
 refine PK.imp pk_nil λ σ H Q h=>?_
 obtain⟨ρ,O,j,h⟩:=h
 exact fin h .nil
theorem ag7 (he:DE X e fe) (hr:DK X kws fk):DK X (⟨nm,e,kpos⟩::kws) (ao fe fk):=by
 refine PK.imp (pk_cons he hr) λ σ H Q h=>?_
 obtain⟨ρ,O,j,h⟩:=h
 refine go j h λ d v H1 e1 s1 r1 j1 h1=>?_
 refine go j1 h1 λ ds vs H2 e2 s2 r2 j2 h2=>?_
 exact fin h2 (.cons (r1.same s2) r2)
theorem Qa {α:Type} {z:α} {sel:List (Sum Nat α)} {ws:List α}:(pickK z sel ws).length=sel.length:=by unfold pickK;rw[List.length_map]
noncomputable def KB (K:PySem.W.Frag) (fd:FuncData) (ps ks:List Str) (sel:List (Sum Nat Value)):Prop:=∀(s:Shared) (us ws:List Value),K.In s.heap->us.length+sel.length=ps.length->ws.length=ks.length->BindsTo s fd ⟨us,ks.zip ws⟩ (ps.zip (us++pickK .none sel ws))
noncomputable def oY (F:List D->R D) (n m:Nat) (sel:List (Sum Nat D)) (fa fk:aq->R (List D)):aq->R D:=λ ρ=>(fa ρ).bind λ ds=>(fk ρ).bind λ zs=>if zs.length=m then bh F n (ds++pickK .non sel zs) else .bad
end
section
variable {X:Cx} {k n:Nat} {f:Addr} {fd:FuncData} {ps:List Str} {F:List D->R D} {x:Str} {p pos:Pos} {e:Expr} {es:List Expr} {fa:aq->R (List D)}
end
theorem len0 {α:Type} {l:List α} (h:l.length=0):l=[]:=List.eq_nil_of_length_eq_zero h
theorem Du {α:Type} {l:List α} {n:Nat} (h:l.length=n+1):∃a m,l=a::m/\m.length=n:=by
 cases l with
 |nil=>simp at h
 |cons a m=>exact⟨a,m,rfl,by simpa using h⟩
section
variable {X:Cx} {k m n:Nat} {fd:FuncData} {ps ks:List Str} {F:List D->R D} {x:Str} {p pos:Pos} {e:Expr} {es:List Expr} {kws:List Keyword} {fa fk:aq->R (List D)}
end
section
variable {K:PySem.W.Frag} {kV doc pm cdv ct:Value} {an:Option Addr} {body:List Stmt} {scope:Scope} {d:Addr} {t:Tok} {q:Pos}
noncomputable def adn (q:Pos):Arguments:={posonlyargs:=[],args:=[⟨"p",none,q⟩],vararg:=none,kwonlyargs:=[⟨"manner",none,q⟩,⟨"marks",none,q⟩],kw_defaults:=[some (.Constant (.str "worth") 0 q),some (.Constant .none 0 q)],kwarg:=none,defaults:=[]}
example:KB K (PySem.W.fnOf "f" "f" (adn q) body scope .none kV doc pm an cdv ct) ["p","manner","marks"] ["marks","manner"] [.inl 1,.inl 0]:=by
 intro s us ws i hl hw
 have hl1:us.length=1:=by simpa using hl
 clear hl
 obtain⟨u,us',rfl,hl2⟩:=Du hl1
 clear hl1
 cases len0 hl2
 obtain⟨w1,ws1,rfl,hw1⟩:=Du hw
 clear hw
 obtain⟨w2,ws2,rfl,hw2⟩:=Du hw1
 clear hw1
 cases len0 hw2
 exact .of_eq rfl
end
end Pu
namespace Pu
open PySem PySem.Spec L2
open PyProof.Rows hiding St
section
variable {X:Cx}
end
end Pu
namespace Pu
open PySem PySem.Spec L2
open PyProof.Rows hiding St
section
variable {K:PySem.W.Frag} {O O':Addr->Prop} {H:Hp}
end
section
variable {X:Cx} {e:Expr} {f:aq->R D} {pos:Pos}
end
section
variable {prog:Program} {w:World} {A:Around} {E:Value->Shared->Prop} {s:Shared} {t:Addr}
end
section
variable {X:Cx}
end
end Pu
namespace Pu
open PySem PySem.Spec L2
open PyProof.Rows hiding St
theorem Jd:fillsNumberSlot (.type "tuple") "mul" =pure false:=
 PySem.fillsNumberSlot_seq (id:= "tuple.__mul__") (r:=some (.builtin "tuple.__rmul__")) F.slot_tuple_mul.lookup (by decide +kernel) F.slot_tuple_rmul.lookup (by decide +kernel)
theorem Ua:seqRepeat? (.type "tuple")=pure (some (.builtin "tuple.__mul__")):=by
 unfold seqRepeat?
 rw[PySem.seqSlot_of (T:= "tuple") (name:= "__mul__") (id:= "tuple.__mul__") F.slot_tuple_mul.lookup (by decide +kernel),PySem.seqSlot_of (T:= "tuple") (name:= "__rmul__") (id:= "tuple.__rmul__") F.slot_tuple_rmul.lookup (by decide +kernel)]
 rfl
theorem M4 (a:Int) (t:Tok) (l:Addr) (items:Array Value) (n:Nat) (dd:Option Addr) (sl:Array (Option Value)):
  Meets (Builtin.«int.__rmul__» ⟨[.int a t,.ref l],[]⟩) (λ Z R s=>s.heap.get? l=some {cls:= .type "tuple",dict:=dd,data:= .seq items n,slots:=sl}/\R (.ok (.ret Value.notImplemented)) s):=
 .of_wp λ prog w A R s h=>by obtain⟨hp,g,d,tk,os⟩:=s;obtain⟨hl,h⟩:=h;wp_walk;exact⟨_,rfl,h⟩
theorem aaU (l:Addr) (items:Array Value) (n:Nat) (dd:Option Addr) (sl:Array (Option Value)) (t:Tok):
  Meets (Builtin.«tuple.__mul__» ⟨[.ref l,.int 1 t],[]⟩) (λ Z R s=>s.heap.get? l=some {cls:= .type "tuple",dict:=dd,data:= .seq items n,slots:=sl}/\R (.ok (.ret (.ref l))) {s with heap:=s.heap,toks:=s.toks}):=
 .of_wp λ prog w A R s h=>by obtain⟨hp,g,d,tk,os⟩:=s;obtain⟨hl,h⟩:=h;have f1:=AutoSeq1.idx_int;have hc0:(items.isEmpty || (1:Int) ==1)=true:=(by simp);unfold Builtin.«tuple.__mul__»;wp_walk using wpAny_loadPart' hl;exact⟨_,rfl,h⟩
theorem aaV (l:Addr) (items:Array Value) (n:Nat) (dd:Option Addr) (sl:Array (Option Value)) (k:Int) (t:Tok) (hf:¬(decide (k < -(2 ^ 63)) || decide (k>=2 ^ 63))=true) (hc0:¬(items.isEmpty || k ==1)=true) (hc1:¬(decide (k<=0) || items.isEmpty)=true)
  (hc2:¬(items.size:Int)*k > (2 ^ 63 - 1) / 8) (hc3:¬Builtin.Tuple.tupleTooMany ((items.size:Int)*k)=true) (hsz:sizeOk (.seq (List.foldl (λ x1 x2=>x1++x2) #[] (List.replicate k.toNat items)))):
  Meets (Builtin.«tuple.__mul__» ⟨[.ref l,.int k t],[]⟩) (λ Z R s=>s.heap.get? l=some {cls:= .type "tuple",dict:=dd,data:= .seq items n,slots:=sl}/\R (.ok (.ret (.ref s.heap.objs.size))) {s with heap:=s.heap.push {cls:=Value.type "tuple",data:=Data.seq (List.foldl (λ x1 x2=>x1++x2) #[] (List.replicate k.toNat items))},toks:=s.toks}):=
 .of_wp λ prog w A R s h=>by
  obtain⟨hp,g,d,tk,os⟩:=s
  obtain⟨hl,h⟩:=h
  have f1:=AutoSeq1.idx_int
  unfold Builtin.«tuple.__mul__»
  wp_walk using wpAny_loadPart' hl
  refine wpAny_ite_false (by simpa using hf) ?_
  wp_walk using wpAny_loadPart' hl
  refine wpAny_ite_false (by simpa using hc2) ?_
  wp_walk using wpAny_loadPart' hl
  refine wpAny_ite_false (by simpa[sizeOk] using hsz) ?_
  wp_walk using wpAny_loadPart' hl
  exact⟨_,rfl,h⟩
section
variable {X:Cx}
theorem ag8:OpR X (binaryOp .Mult) (λ x y H Q=>∃a k xs,x= .ref a/\y= .int k/\SqT X.K H a xs/\xs≠[]/\1<=k/\k < 2 ^ 63/\xs.length*k.toNat<=sizeLine/\(k=1->Q (.ref a) H)/\
  (k≠1->∀p,H p=none->Q (.ref p) (upd H p (.tup (List.replicate k.toNat xs).flatten)))):=by
 intro pins s σ H x y v u Q I rx ry h
 refine bc λ zQ=>?_
 obtain⟨a,k,xs,rfl,rfl,hq,hx,h1,h2,hz,q1,q2⟩:=h
 apply zQ;clear zQ
 obtain rfl:=rx
 refine bc λ zQ=>?_
 obtain⟨t,rfl⟩:=ry
 obtain⟨its,r,p1,_⟩:=I.tuple hq
 obtain⟨⟨cls,dd,data,sl⟩,ho,hc,n,hd⟩:=id p1
 apply zQ;clear zQ
 simp only at hc hd
 subst hc hd
 have hlen:=r.length
 have hne:its≠[]:=λ z=>hx (by rw[z] at r;cases r;rfl)
 have hpos:0 < its.length:=by cases its with |nil=>exact absurd rfl hne |cons _ _=>simp
 have hemp:its.toArray.isEmpty=false:=by cases its with |nil=>exact absurd rfl hne |cons _ _=>simp
 refine wpAny_binaryOp_repeat_ref (T:= "tuple") (U:= "int") (by decide) ⟨_,ho,rfl⟩ (λ s'=>typeIs_int s' k t) Jd F.fills_int_mul F.slot_int_rmul Ua F.slot_int_index.lookup
  (call_meets F.slot_int_rmul (typeIs_int s k t) F.entry_int_rmul (F.args_int_rmul_2 _ _) (M4 k t a its.toArray n dd sl) ⟨ho,rfl,⟨_,ho,rfl⟩,?_⟩)
 by_cases hk:k=1
 ·subst hk
  exact call_meets F.slot_tuple_mul ⟨_,ho,rfl⟩ F.entry_tuple_mul (F.args_tuple_mul_2 _ _) (aaU a its.toArray n dd sl t) ⟨ho,⟨.ref a,H,I,rfl,q1 rfl⟩⟩
 ·have hmul:(its.toArray.size:Int)*k=((xs.length*k.toNat:Nat):Int):=by
   rw[List.size_toArray,<-hlen,Int.natCast_mul,Int.toNat_of_nonneg (by exact Int.le_of_lt h1)]
  have hnew:List.foldl (λ x1 x2=>x1++x2) #[] (List.replicate k.toNat its.toArray)=(List.replicate k.toNat its).flatten.toArray:=by
   have:=foldl_rep its k.toNat []
   rw[List.nil_append] at this
   exact this
  have hs:sizeOk (.seq (List.foldl (λ x1 x2=>x1++x2) #[] (List.replicate k.toNat its.toArray))):=by
   rw[hnew]
   show (List.replicate k.toNat its).flatten.toArray.size<=sizeLine
   rw[List.size_toArray,len_rep,<-hlen,Nat.mul_comm];exact hz
  have hbig:(sizeLine:Nat)<=(2 ^ 63 - 1) / 8:=by decide
  refine call_meets F.slot_tuple_mul ⟨_,ho,rfl⟩ F.entry_tuple_mul (F.args_tuple_mul_2 _ _) (aaV a its.toArray n dd sl k t (by simp;exact alL h1 h2) (by rw[hemp];simp[hk]) (by rw[hemp];simp;assumption) (by rw[hmul];exact alM hz hbig) (by rw[hmul];unfold Builtin.Tuple.tupleTooMany;intro z;have z:=of_decide_eq_true z;exact akd z hz) hs) ⟨ho,?_⟩
  rw[hnew]
  refine⟨.ref s.heap.objs.size,_,I.laid (t':=s.toks) (o:= .tup (List.replicate k.toNat xs).flatten) (λ b ob q=>Heap.get?_push_of_some _ q) (z0g _) ?_,rfl,q2 hk _ (I.hok.fresh (z0g _))⟩
  exact⟨by rw[len_rep,Nat.mul_comm];exact hz,_,r.rep k.toNat,IsTup.new _ _⟩
theorem Ub {K:PySem.W.Frag} {O:Addr->Prop} {H:Hp} {ds:List D} {xs:List V} (r:aZ K O H ds xs):∀k:Nat,aZ K O H (List.replicate k ds).flatten (List.replicate k xs).flatten
 |0=> .nil
 |k+1=>by rw[List.replicate_succ,List.replicate_succ,List.flatten_cons,List.flatten_cons];exact r.append (Ub r k)
noncomputable def vd:D->D->R D
 | .int i,.int j=>ji (.int i) (.int j)
 | .tup ds,.int k=>if ds≠[]/\1<=k/\k < 2 ^ 63/\ds.length*k.toNat<=1000000 then .ok (.tup (List.replicate k.toNat ds).flatten) else .bad
 |_,_=> .bad
set_option tactic.hygienic true in
theorem zG:kJ X (binaryOp .Mult) vd:=by
 obtain⟨r0,o0,c0⟩:=sG (X:=X)
 refine⟨_,OpR.or o0 ag8,λ ρ O σ H Q x y dx dy j0 rx ry h=>?_⟩
 cases dx <;> cases dy <;> first
  |exact h.elim
  |skip
 ·exact .inl (c0 ρ O σ H Q x y _ _ j0 rx ry h)
 ·rename_i ds k
  have h:good X (rD X) O (if ds≠[]/\1<=k/\k < 2 ^ 63/\ds.length*k.toNat<=1000000 then .ok (.tup (List.replicate k.toNat ds).flatten) else .bad) σ H Q:=h
  by_cases hc:ds≠[]/\1<=k/\k < 2 ^ 63/\ds.length*k.toNat<=1000000
  ·rw[if_pos hc] at h
   obtain⟨a,us,rfl,ha,r1⟩:=rx.tup
   obtain⟨h0,h1,h2,h3⟩:=hc
   refine .inr ⟨a,k,us,rfl,ry.int,ha,λ z=>h0 (by have:=r1.length;rw[z] at this;exact List.eq_nil_of_length_eq_zero this),h1,h2,by rw[<-r1.length];exact z0b h3 iT,λ z=>?_,λ z l hl=>?_⟩
   ·subst z
    have e:(List.replicate (1:Int).toNat ds).flatten=ds:=by simp
    rw[e] at h
    exact fin h (jz ha r1)
   ·exact h _ _ (Same.upd hl) (Rep.uH hl (Ub r1 _))
  ·rw[if_neg hc] at h;exact h.elim
end
end Pu
namespace Pu
open PySem PySem.Spec L2
open PyProof.Rows hiding St
noncomputable def iG:D->Bool
 | .tup _=>false
 | .lst _=>false
 |_=>true
noncomputable def vD:D->V
 | .non=> .non
 | .bl b=> .bl b
 | .int i=> .int i
 | .str x=> .str x
 |_=> .non
section
variable {K:PySem.W.Frag} {O:Addr->Prop} {H:Hp}
theorem Z7 {d:D} {v:V} (f:iG d=true) (r:Rep K O H d v):v=vD d:=by
 cases d with
 |non=>exact r.non
 |bl b=>exact r.bl
 |int i=>exact r.int
 |str x=>exact r.str
 |tup _=>injection f
 |lst _=>injection f
theorem Uc:∀{ds:List D} {vs:List V},ds.all iG=true->aZ K O H ds vs->vs=ds.map vD
 |[],vs,_,r=>r.nil_inv
 | d::ds,vs,f,r=>by
  obtain⟨x,t,rfl,h1,h2⟩:=r.cons_inv
  rw[List.all_cons,Bool.and_eq_true] at f
  rw[Z7 f.1 h1,Uc f.2 h2];rfl
theorem ado {d:D} (f:iG d=true):flatV (vD d)=true:=by cases d <;> first |rfl |cases f
theorem amY {a b:D} (fa:iG a=true) (fb:iG b=true):eqV (vD a) (vD b)=gk a b:=by
 cases a <;> cases b <;> first |rfl |exact Bool.noConfusion fa |exact Bool.noConfusion fb |(rw[aK];rfl) |(simp[vD,eqV,aN,aO,aP,aQ,aR,aL,aK])
theorem agL {d:D} (fd:iG d=true):∀{ds:List D},ds.all iG=true->inV (vD d) (ds.map vD)=ds.any λ y=>gk y d
 |[],_=>rfl
 | y::ds,f=>by
  rw[List.all_cons,Bool.and_eq_true] at f
  have ih:=agL fd f.2
  unfold inV at ih |-
  rw[List.map_cons,List.any_cons,List.any_cons,amY f.1 fd,ih]
theorem Z8:∀{ds:List D},ds.all iG=true->(ds.map vD).all flatV=true
 |[],_=>rfl
 | y::ds,f=>by
  rw[List.all_cons,Bool.and_eq_true] at f
  rw[List.map_cons,List.all_cons,ado f.1,Z8 f.2];rfl
end
noncomputable def aaW:D->Option (List D)
 | .tup ds=>some ds
 | .lst ds=>some ds
 |_=>none
noncomputable def zH (neg:Bool) (d s:D):R D:=match aaW s with
 |some ds=>if iG d=true/\ds.all iG=true then .ok (.bl (if neg then !(ds.any λ y=>gk y d) else ds.any λ y=>gk y d)) else .bad
 |none=> .bad
section
variable {X:Cx}
theorem in_of {neg:Bool} {ρ:aq} {O:Addr->Prop} {σ:St} {H:Hp} {Q:VK} {x y:V} {dx dy:D} (rx:Rep X.K O H dx x) (ry:Rep X.K O H dy y) (h:good X (rD X) O (zH neg dx dy) σ H Q):rIn X.K neg x y H Q:=by
 unfold zH at h
 cases e:aaW dy with
 |none=>rw[e] at h;exact h.elim
 | some ds=>
  rw[e] at h
  have h:good X (rD X) O (if iG dx=true/\ds.all iG=true then .ok (.bl (if neg then !(ds.any λ y=>gk y dx) else ds.any λ y=>gk y dx)) else .bad) σ H Q:=h
  by_cases hc:iG dx=true/\ds.all iG=true
  ·rw [if_pos hc] at h
   have key:∃p xs,y= .ref p/\(SqL X.K H p xs\/SqT X.K H p xs)/\aZ X.K O H ds xs:=by
    cases dy with
    | tup ds'=>
     cases e
     obtain⟨a,xs,rfl,hq,rs⟩:=ry.tup
     exact⟨a,xs,rfl,.inr hq,rs⟩
    | lst ds'=>
     cases e
     obtain⟨a,xs,rfl,hq,_,rs⟩:=ry.lst
     exact⟨a,xs,rfl,.inl hq,rs⟩
    |_=>injection e
   obtain⟨p,xs,rfl,hq,rs⟩:=key
   have e1:=Z7 hc.1 rx
   have e2:=Uc hc.2 rs
   subst e1 e2
   refine⟨p,_,rfl,hq,ado hc.1,Z8 hc.2,?_⟩
   rw[agL hc.1 hc.2]
   exact fin h (gb _)
  ·rw[if_neg hc] at h;exact h.elim
theorem agM:kJ X (compareOp .In) (zH false):=⟨_,op_in_seq,λ ρ O σ H Q x y dx dy j0 rx ry h=>in_of (ρ:=ρ) rx ry h⟩
theorem afn:kJ X (compareOp .NotIn) (zH true):=⟨_,op_notIn_seq,λ ρ O σ H Q x y dx dy j0 rx ry h=>in_of (ρ:=ρ) rx ry h⟩
end
end Pu
namespace Pu
open PySem PySem.Spec L2
open PyProof.Rows hiding St
noncomputable def pX:Bool->Heap->Addr->Addr->Nat->Prop
 |true,h,it,l,k=>h.IsTupleIter it l k
 |false,h,it,l,k=>h.IsListIter it l k
noncomputable def um:Bool->Heap->Addr->Array Value->Prop
 |true,h,l,xs=>h.IsTuple l xs
 |false,h,l,xs=>h.IsList l xs
noncomputable def itC (t:Bool):String:=if t then "tuple_iterator" else "list_iterator"
noncomputable def Sq:Bool->PySem.W.Frag->Hp->Addr->List V->Prop
 |true,K,H,a,xs=>SqT K H a xs
 |false,K,H,a,xs=>SqL K H a xs
theorem pX.of {t:Bool} {h h':Heap} {it l:Addr} {k:Nat} (x:pX t h it l k) (q:∀o,h.get? it=some o->h'.get? it=some o):pX t h' it l k:=by
 cases t <;> (obtain⟨o,e,r⟩:=x;exact⟨o,q o e,r⟩)
theorem pX.obj {t:Bool} {h:Heap} {it l:Addr} {k:Nat} (x:pX t h it l k):∃o,h.get? it=some o/\∀v,o.data≠.cell v:=by
 cases t <;> (obtain⟨o,e,c,d⟩:=x;exact⟨o,e,λ v z=>by rw[d] at z;injection z⟩)
theorem pX.new {t:Bool} {h:Heap} {l:Addr} {it:Addr} (e:h.get? it=some {cls:= .type (itC t),data:= .fields #[.ref l,.int 0 0]}):pX t h it l 0:=by
 cases t <;> exact⟨_,e,rfl,rfl⟩
theorem um.of {t:Bool} {h h':Heap} {l:Addr} {xs:Array Value} (x:um t h l xs) (q:∀o,h.get? l=some o->h'.get? l=some o):um t h' l xs:=by
 cases t <;> (obtain⟨o,e,r⟩:=x;exact⟨o,q o e,r⟩)
section
variable {prog:Program} {w:World} {A:Around} {E:Value->Shared->Prop} {s:Shared}
theorem nextT {it l:Addr} {i:Nat} {xs:Array Value} {v:Value} {Q:Value->Shared->Prop} (hit:s.heap.IsTupleIter it l i) (hl:s.heap.IsTuple l xs) (hv:xs[i]?=some v)
  (hQ:∀h',h'.IsTupleIter it l (i+1)->Heap.SameBut it s.heap h'->Q v {s with heap:=h'}):wpAny (model prog w) A (Builtin.SmallTypes.nextOf (.ref it)) Q E s:=by
 have ty:=hit.typeIs
 obtain⟨o,g,c,dt⟩:=hit
 obtain⟨p,gp,_,m,dp⟩:=hl
 unfold Builtin.SmallTypes.nextOf
 refine wpAny_bind (wpAny_callSpecial?_slot (name:=Str.ofString "__next__") ty F.slot_tuple_iterator_next (wpAny_call_entry F.slot_tuple_iterator_next ty F.entry_tuple_iterator_next ?_ (F.args_tuple_iterator_next_1 _)))
 show wpAny _ _ (field (.ref it) 0 >>=_) _ _ s;refine wpAny_bind (wpAny_field g dt (x:= .ref l) rfl ?_)
 show wpAny _ _ (if (Value.ref l ==Value.none)=true then _ else _) _ _ s;rw[if_neg (show ¬((Value.ref l ==Value.none)=true) from Bool.false_ne_true)]
 show wpAny _ _ (field (.ref it) 1 >>=_) _ _ s;refine wpAny_bind (wpAny_field g dt (x:= .int i 0) rfl ?_)
 show wpAny _ _ (seqItems? (.ref l) >>=_) _ _ s;refine wpAny_bind (wpAny_seqItems gp dp ?_)
 simp only[Int.toNat_natCast,hv]
 refine wpAny_bind (wpAny_setField g dt (by simp) (wpAny_pure ⟨v,rfl,wpAny_pure (hQ _ ⟨_,Heap.get?_update_self _ g (Obj.isFreed_of_fields (Obj.data_mapFields dt _)),(Obj.cls_mapFields ..).trans c,?_⟩ (Heap.SameBut.update ..))⟩))
 rw[Obj.data_mapFields dt];simp[rawInt]
theorem afo {it l:Addr} {i:Nat} {xs:Array Value} {Q:Value->Shared->Prop} (hh:A.handled=none) (hit:s.heap.IsTupleIter it l i) (hl:s.heap.IsTuple l xs) (hv:xs[i]?=none)
  (hE:∀h' e,Heap.ExtBut it s.heap h'->(∃o,h'.get? e=some o/\o.cls= .type "StopIteration")->E (.ref e) {s with heap:=h'}):wpAny (model prog w) A (Builtin.SmallTypes.nextOf (.ref it)) Q E s:=by
 have ty:=hit.typeIs
 obtain⟨o,g,c,dt⟩:=hit
 obtain⟨p,gp,_,m,dp⟩:=hl
 unfold Builtin.SmallTypes.nextOf
 refine wpAny_bind (wpAny_callSpecial?_slot (name:=Str.ofString "__next__") ty F.slot_tuple_iterator_next (wpAny_call_entry F.slot_tuple_iterator_next ty F.entry_tuple_iterator_next ?_ (F.args_tuple_iterator_next_1 _)))
 show wpAny _ _ (field (.ref it) 0 >>=_) _ _ s;refine wpAny_bind (wpAny_field g dt (x:= .ref l) rfl ?_)
 show wpAny _ _ (if (Value.ref l ==Value.none)=true then _ else _) _ _ s;rw[if_neg (show ¬((Value.ref l ==Value.none)=true) from Bool.false_ne_true)]
 show wpAny _ _ (field (.ref it) 1 >>=_) _ _ s;refine wpAny_bind (wpAny_field g dt (x:= .int i 0) rfl ?_)
 show wpAny _ _ (seqItems? (.ref l) >>=_) _ _ s;refine wpAny_bind (wpAny_seqItems gp dp ?_)
 simp only[Int.toNat_natCast,hv]
 refine wpAny_bind (wpAny_rule (wpAny_bind (wpAny_setField g dt (by simp) ?_)))
 show wpAny _ _ (newExc (.type "StopIteration") [] >>=_) _ _ _;refine wpAny_bind ?_
 simp only[newExc,newTuple];refine wpAny_bind (wpAny_newObj_type ?_ (by size_fits))
 refine wpAny_bind (m:=firstArgMember _ _) (wpAny_of_eq (a:=Value.none) (by first |(simp only[firstArgMember];rfl) |rfl) ?_)
 refine wpAny_newObj_type ?_ (by size_fits);unfold raiseNew
 refine wpAny_bind (wpAny_handled ?_);first |rw [show A.in1.handled=none from hh] |rw [hh]
 exact wpAny_bind (wpAny_pure (wpAny_throw (hE _ _ (((Heap.SameBut.update ..).extBut.push _).push _) ⟨_,Heap.get?_push_size _ rfl,rfl⟩)))
theorem Te {t:Bool} {it l:Addr} {i:Nat} {xs:Array Value} {v:Value} {Q:Value->Shared->Prop} (hit:pX t s.heap it l i) (hl:um t s.heap l xs) (hv:xs[i]?=some v)
  (hQ:∀h',pX t h' it l (i+1)->Heap.SameBut it s.heap h'->Q v {s with heap:=h'}):wpAny (model prog w) A (Builtin.SmallTypes.nextOf (.ref it)) Q E s:=by
 cases t with
 |true=>exact nextT hit hl hv hQ
 |false=>exact wpAny_nextOf_list_item hit hl hv hQ
theorem Je {t:Bool} {it l:Addr} {i:Nat} {xs:Array Value} {Q:Value->Shared->Prop} (hh:A.handled=none) (hit:pX t s.heap it l i) (hl:um t s.heap l xs) (hv:xs[i]?=none)
  (hE:∀h' e,Heap.ExtBut it s.heap h'->(∃o,h'.get? e=some o/\o.cls= .type "StopIteration")->E (.ref e) {s with heap:=h'}):wpAny (model prog w) A (Builtin.SmallTypes.nextOf (.ref it)) Q E s:=by
 cases t with
 |true=>exact afo hh hit hl hv hE
 |false=>exact wpAny_nextOf_list_end hh hit hl hv hE
theorem Tf {t:Bool} {l:Addr} {xs:Array Value} {Q:Value->Shared->Prop} (hl:um t s.heap l xs) (hQ:Q (.ref s.heap.objs.size) {s with heap:=s.heap.push {cls:= .type (itC t),data:= .fields #[.ref l,.int 0 0]}}):
  wpAny (model prog w) A (pyIter (.ref l)) Q E s:=by
 cases t with
 |true=>exact wpAny_pyIter_tuple hl hQ
 |false=>exact wpAny_pyIter_list hl hQ
theorem Ud {T:Addr} {arr:Array Value} {x:Value} {k:Nat} {Q:Unit->Shared->Prop} (hT:s.heap.get? T=some {cls:= .type "tuple",data:= .seq arr})
  (h:∀h',h'.get? T=some {cls:= .type "tuple",data:= .seq (arr.setIfInBounds k x)}->Heap.SameBut T s.heap h'->Q () {s with heap:=h'}) (hs:arr.size<=sizeLine:=by size_fits):wpAny (model prog w) A (updateSeq T (·.setIfInBounds k x)) Q E s:=by
 refine wpAny_updateSeq (hz:=hs) (_hz':=by simpa using Nat.le_succ_of_le hs) hT rfl (h _ (by rw[Heap.get?_update_self _ hT rfl];simp[Obj.mapSeq]) (Heap.SameBut.update ..))
end
section
variable {X:Cx} {pins:List (Addr×Obj)} {σ:St} {H:Hp} {s:Shared}
theorem _root_.L2.Inv.fp {b:Addr} {h':Heap} (I:Inv X pins σ H s) (f:FpOk X pins H b) (sb:Heap.SameBut b s.heap h'):Inv X pins σ H {s with heap:=h'}:=
 I.turned (t':=s.toks) (λ c o hc e=>(sb.2 c hc).trans e) f.1 f.2.1 f.2.2.2.1 f.2.2.2.2.1 f.2.2.2.2.2
theorem _root_.L2.Inv.fpE {b:Addr} {h':Heap} (I:Inv X pins σ H s) (f:FpOk X pins H b) (sb:Heap.ExtBut b s.heap h'):Inv X pins σ H {s with heap:=h'}:=
 I.turned (t':=s.toks) (λ c o hc e=>sb c o hc e) f.1 f.2.1 f.2.2.2.1 f.2.2.2.2.1 f.2.2.2.2.2
theorem _root_.L2.FpOk.upd {b p:Addr} {o:HO} (f:FpOk X pins H b) (n:b≠p):FpOk X pins (L2.upd H p o) b:=⟨by rw[upd_ne n];exact f.1,f.2⟩
theorem _root_.L2.Inv.sq {t:Bool} {l:Addr} {xs:List V} (I:Inv X pins σ H s) (q:Sq t X.K H l xs):∃its:List Value,Vals xs its/\um t s.heap l its.toArray:=by
 cases t with
 |true=>obtain⟨its,r,p,_⟩:=I.tuple q;exact⟨its,r,p⟩
 |false=>obtain⟨its,r,p,_⟩:=I.list q;exact⟨its,r,p.isList⟩
theorem _root_.L2.Inv.Ue {t:Bool} {l:Addr} {xs ys:List V} (I:Inv X pins σ H s) (q:Sq t X.K H l xs) (r:Sq t X.K H l ys):xs=ys:=by
 cases t with
 |true=>exact I.tuple_inj q r
 |false=>exact I.list_inj q r
end
end Pu
namespace Pu
open PySem PySem.Spec L2
open PyProof.Rows hiding St
noncomputable abbrev Ao (h:Heap) (T:Addr) (arr:Array Value):Prop:=h.get? T=some {cls:= .type "tuple",data:= .seq arr}
structure Z2 (h:Heap) (z TI TO i1 i2:Addr) (t1 t2:Bool) (l1 l2:Addr) (k:Nat):Prop where
 z:IsZip h z TI TO .none
 ti:Ao h TI #[.ref i1,.ref i2]
 to:∃a b,Ao h TO #[a,b]
 s1:pX t1 h i1 l1 k
 s2:pX t2 h i2 l2 k
noncomputable def afp (K:PySem.W.Frag) (t1:Bool) (l1:Addr) (t2:Bool) (l2:Addr):It:=
 ⟨λ i H=>∃xs ys x y,Sq t1 K H l1 xs/\xs[i]?=some x/\Sq t2 K H l2 ys/\ys[i]?=some y,
  λ i H v H'=>∃p x y,H p=none/\v= .ref p/\H'=upd H p (.tup [x,y])/\(∀xs,Sq t1 K H l1 xs->xs[i]?=some x)/\∀ys,Sq t2 K H l2 ys->ys[i]?=some y,
  λ i H=>∃xs ys,Sq t1 K H l1 xs/\Sq t2 K H l2 ys/\(xs.length<=i\/ys.length<=i)⟩
section
variable {X:Cx} {pins:List (Addr×Obj)} {σ:St} {H:Hp} {s:Shared} {A':Around} {E:Value->Shared->Prop}
theorem adp:2<=sizeLine:=z0b (by decide) (z0e jO)
theorem adq {z TI TO i1 i2 l1 l2:Addr} {t1 t2:Bool} {k:Nat} {xs ys:List V} {x y:V} {Q:Value->Shared->Prop} (I:Inv X pins σ H s)
  (fz:FpOk X pins H z) (fO:FpOk X pins H TO) (f1:FpOk X pins H i1) (f2:FpOk X pins H i2)
  (n1:TI≠z) (n2:TO≠z) (n3:i1≠z) (n4:i2≠z) (n5:TI≠TO) (n6:TI≠i1) (n7:TI≠i2) (n8:TO≠i1) (n9:TO≠i2) (n10:i1≠i2)
  (st:Z2 s.heap z TI TO i1 i2 t1 t2 l1 l2 k) (q1:Sq t1 X.K H l1 xs) (e1:xs[k]?=some x) (q2:Sq t2 X.K H l2 ys) (e2:ys[k]?=some y)
  (hQ:∀h',Inv X pins σ (upd H s.heap.objs.size (.tup [x,y])) {s with heap:=h'}->IsZip h' z TI TO (rawInt s.heap.objs.size)->Ao h' TI #[.ref i1,.ref i2]->(∃a b,Ao h' TO #[a,b])->
   pX t1 h' i1 l1 (k+1)->pX t2 h' i2 l2 (k+1)->Q (.ref s.heap.objs.size) {s with heap:=h'}):
  wpAny (model X.prog X.w) A' (Builtin.«zip.__next__» ⟨[.ref z],[]⟩) (λ fin s'=>∃v,fin= .done (.ret v)/\Q v s') E s:=by
 refine bc λ zQ=>?_
 obtain⟨hz,hTI,⟨a,b,hTO⟩,h1,h2⟩:=st
 apply zQ;clear zQ
 show wpAny _ _ (field (.ref z) 2 >>=_) _ _ _;refine wpAny_bind (wpAny_field hz rfl (x:= .bool false) rfl ?_)
 show wpAny _ _ (field (.ref z) 3 >>=_) _ _ _;refine wpAny_bind (wpAny_field hz rfl (x:= .ref TI) rfl ?_)
 refine wpAny_bind (wpAny_seqItems hTI rfl ?_)
 show wpAny _ _ (Builtin.SmallTypes.ownedTupleIsFree (.ref z) >>=_) _ _ _;refine wpAny_bind ?_
 unfold Builtin.SmallTypes.ownedTupleIsFree
 refine wpAny_bind (wpAny_field hz rfl (x:= .none) rfl (wpAny_pure ?_));simp only[if_true]
 refine wpAny_bind (wpAny_rule (wpAny_bind (wpAny_field hz rfl (x:= .ref TO) rfl ?_)))
 refine wpAny_bind (wpAny_setField_rec hz (by simp) λ g1 z1 b1=>?_)
 replace z1:IsZip g1 z TI TO .ellipsis:=z1
 have I1:=I.fp fz b1
 refine wpAny_bind ?_
 simp only[List.zipIdx_cons,List.zipIdx_nil,List.forIn_cons,List.forIn_nil]
 refine bc λ zQ=>?_
 obtain⟨us,r1,p1⟩:=I1.sq q1
 obtain⟨u,hu,ru⟩:=r1.get e1
 apply zQ;clear zQ
 refine wpAny_bind (wpAny_bind (wpAny_onRaise ?_));show wpAny _ _ (Builtin.SmallTypes.nextOf (.ref i1) >>=_) _ _ _
 refine wpAny_bind (Te (h1.of λ o e=>b1.extBut _ _ n3 e) p1 (v:=u) (by simpa using hu) λ g2 s12 b2=>wpAny_pure ?_)
 have I2:=I1.fp f1 b2
 have o2:Ao g2 TO #[a,b]:=b2.extBut _ _ n8 (b1.extBut _ _ n2 hTO)
 refine wpAny_bind (wpAny_seqItems o2 rfl (wpAny_bind (Ud o2 λ g3 o3 b3=>wpAny_bind (wpAny_letGo (wpAny_pure ?_)))))
 replace o3:Ao g3 TO #[u,b]:=o3
 have I3:=I2.fp fO b3
 refine bc λ zQ=>?_
 obtain⟨vs,r2,p2⟩:=I3.sq q2
 obtain⟨v,hv,rv⟩:=r2.get e2
 apply zQ;clear zQ
 refine wpAny_bind (wpAny_bind (wpAny_onRaise ?_));show wpAny _ _ (Builtin.SmallTypes.nextOf (.ref i2) >>=_) _ _ _
 refine wpAny_bind (Te (h2.of λ o e=>b3.extBut _ _ (Ne.symm n9) (b2.extBut _ _ (Ne.symm n10) (b1.extBut _ _ n4 e))) p2 (v:=v) (by simpa using hv) λ g4 s24 b4=>wpAny_pure ?_)
 have I4:=I3.fp f2 b4
 have o4:Ao g4 TO #[u,b]:=b4.extBut _ _ n9 o3
 refine wpAny_bind (wpAny_seqItems o4 rfl (wpAny_bind (Ud o4 λ g5 o5 b5=>wpAny_bind (wpAny_letGo (wpAny_pure (wpAny_pure ?_))))))
 replace o5:Ao g5 TO #[u,v]:=o5
 have I5:=I4.fp fO b5
 refine wpAny_bind (wpAny_seqItems o5 rfl (wpAny_bind (wpAny_newTuple ?_)))
 have sz:g5.objs.size=s.heap.objs.size:=by rw[b5.1,b4.1,b3.1,b2.1,b1.1]
 have I6:Inv X pins σ (upd H g5.objs.size (.tup [x,y])) {s with heap:=g5.push {cls:= .type "tuple",data:= .seq #[u,v]}}:=
  I5.laid (t':=s.toks) (λ b u e=>Heap.get?_push_of_some _ e) (z0g _) ⟨adp,[u,v],.cons ru (.cons rv .nil),⟨_,Heap.get?_push_size _ rfl,rfl,_,rfl⟩⟩
 have z5:IsZip g5 z TI TO .ellipsis:=b5.extBut _ _ (Ne.symm n2) (b4.extBut _ _ (Ne.symm n4) (b3.extBut _ _ (Ne.symm n2) (b2.extBut _ _ (Ne.symm n3) z1)))
 have lt:∀{c o},g5.get? c=some o->c≠g5.objs.size:=λ e=>Nat.ne_of_lt (Heap.lt_size e)
 show wpAny _ _ (Builtin.SmallTypes.ownedTupleHandOut (.ref z) (.ref g5.objs.size) >>=_) _ _ _;refine wpAny_bind ?_
 unfold Builtin.SmallTypes.ownedTupleHandOut
 refine wpAny_bind (wpAny_setField_rec (Heap.get?_push_of_some _ z5) (by simp) λ g7 z7 b7=>?_)
 replace z7:IsZip g7 z TI TO (rawInt g5.objs.size):=z7
 have I7:=I6.fp (fz.upd (lt z5)) b7
 refine wpAny_setField_rec z7 (by simp) λ g8 z8 b8=>?_
 replace z8:IsZip g8 z TI TO (rawInt g5.objs.size):=z8
 have I8:=I7.fp (fz.upd (lt z5)) b8
 have up:∀c o,c≠z->g5.get? c=some o->g8.get? c=some o:=λ c o c1 e=>b8.extBut _ _ c1 (b7.extBut _ _ c1 (Heap.get?_push_of_some _ e))
 refine wpAny_pure ⟨_,rfl,?_⟩
 rw[sz] at I8 z8
 show Q (.ref g5.objs.size) _
 rw[sz]
 refine hQ g8 I8 z8 (up _ _ n1 (b5.extBut _ _ n5 (b4.extBut _ _ n7 (b3.extBut _ _ n5 (b2.extBut _ _ n6 (b1.extBut _ _ n1 hTI)))))) ⟨u,v,up _ _ n2 o5⟩ ?_ ?_
 ·exact s12.of λ o e=>up _ _ n3 (b5.extBut _ _ (Ne.symm n8) (b4.extBut _ _ n10 (b3.extBut _ _ (Ne.symm n8) e)))
 ·exact s24.of λ o e=>up _ _ n4 (b5.extBut _ _ (Ne.symm n9) e)
theorem afq {z TI TO i1 i2 l1 l2:Addr} {t1 t2:Bool} {k:Nat} {xs ys:List V} {Q:Fin->Shared->Prop} (hh:A'.handled=none) (I:Inv X pins σ H s)
  (fz:FpOk X pins H z) (fO:FpOk X pins H TO) (f1:FpOk X pins H i1) (f2:FpOk X pins H i2)
  (n1:TI≠z) (n2:TO≠z) (n3:i1≠z) (n4:i2≠z) (n5:TI≠TO) (n6:TI≠i1) (n7:TI≠i2) (n8:TO≠i1) (n9:TO≠i2) (n10:i1≠i2)
  (st:Z2 s.heap z TI TO i1 i2 t1 t2 l1 l2 k) (q1:Sq t1 X.K H l1 xs) (q2:Sq t2 X.K H l2 ys) (en:xs.length<=k\/ys.length<=k)
  (hE:∀h' e,Inv X pins σ H {s with heap:=h'}->(∃o,h'.get? e=some o/\o.cls= .type "StopIteration")->E (.ref e) {s with heap:=h'}):
  wpAny (model X.prog X.w) A' (Builtin.«zip.__next__» ⟨[.ref z],[]⟩) Q E s:=by
 refine bc λ zQ=>?_
 obtain⟨hz,hTI,⟨a,b,hTO⟩,h1,h2⟩:=st
 apply zQ;clear zQ
 show wpAny _ _ (field (.ref z) 2 >>=_) _ _ _;refine wpAny_bind (wpAny_field hz rfl (x:= .bool false) rfl ?_)
 show wpAny _ _ (field (.ref z) 3 >>=_) _ _ _;refine wpAny_bind (wpAny_field hz rfl (x:= .ref TI) rfl ?_)
 refine wpAny_bind (wpAny_seqItems hTI rfl ?_)
 show wpAny _ _ (Builtin.SmallTypes.ownedTupleIsFree (.ref z) >>=_) _ _ _;refine wpAny_bind ?_
 unfold Builtin.SmallTypes.ownedTupleIsFree
 refine wpAny_bind (wpAny_field hz rfl (x:= .none) rfl (wpAny_pure ?_));simp only[if_true]
 refine wpAny_bind (wpAny_rule (wpAny_bind (wpAny_field hz rfl (x:= .ref TO) rfl ?_)))
 refine wpAny_bind (wpAny_setField_rec hz (by simp) λ g1 z1 b1=>?_)
 replace z1:IsZip g1 z TI TO .ellipsis:=z1
 have I1:=I.fp fz b1
 refine wpAny_bind ?_
 simp only[List.zipIdx_cons,List.zipIdx_nil,List.forIn_cons,List.forIn_nil]
 refine bc λ zQ=>?_
 obtain⟨us,r1,p1⟩:=I1.sq q1
 apply zQ;clear zQ
 have leave:∀{g g':Heap} {e:Addr} {c:Addr},Inv X pins σ H {s with heap:=g}->IsZip g z TI TO .ellipsis->FpOk X pins H c->c≠z->Heap.ExtBut c g g'->(∃o,g'.get? e=some o/\o.cls= .type "StopIteration")->
   wpAny (model X.prog X.w) A' (setField (.ref z) 0 .none) (λ Z s'=>E (.ref e) s') E {s with heap:=g'}:=λ {g g' e c} Ig zg fc nc eb ⟨oe,hoe,hce⟩=>by
  have zg':IsZip g' z TI TO .ellipsis:=eb _ _ (Ne.symm nc) zg
  have hez:e≠z:=λ q=>by subst q;rw[zg'] at hoe;(injection hoe with aH;subst aH);simp at hce
  have Ig':Inv X pins σ H {s with heap:=g'}:=Ig.fpE fc eb
  exact wpAny_setField_rec zg' (by simp) λ g'' Z b''=>hE g'' e (Ig'.fp fz b'') ⟨oe,b''.extBut _ _ hez hoe,hce⟩
 refine wpAny_bind (wpAny_bind (wpAny_onRaise ?_));show wpAny _ _ (Builtin.SmallTypes.nextOf (.ref i1) >>=_) _ _ _
 have h1':=h1.of (h':=g1) λ o e=>b1.extBut _ _ n3 e
 by_cases hx:xs.length<=k
 ·exact wpAny_bind (Je hh h1' p1 (by have:=r1.length;simp;exact PB this hx) λ g2 e eb ex=>leave I1 z1 f1 n3 eb ex)
 ·have hy:ys.length<=k:=by rcases en with h |h;exact absurd h hx;exact h
  refine bc λ zQ=>?_
  obtain⟨u,hu,ru⟩:=r1.get (i:=k) (x:=xs[k]'(by exact agl hx)) (List.getElem?_eq_getElem (by exact agl hx))
  apply zQ;clear zQ
  refine wpAny_bind (Te h1' p1 (v:=u) (by simpa using hu) λ g2 s12 b2=>wpAny_pure ?_)
  have I2:=I1.fp f1 b2
  have o2:Ao g2 TO #[a,b]:=b2.extBut _ _ n8 (b1.extBut _ _ n2 hTO)
  refine wpAny_bind (wpAny_seqItems o2 rfl (wpAny_bind (Ud o2 λ g3 o3 b3=>wpAny_bind (wpAny_letGo (wpAny_pure ?_)))))
  have I3:=I2.fp fO b3
  refine bc λ zQ=>?_
  obtain⟨vs,r2,p2⟩:=I3.sq q2
  apply zQ;clear zQ
  have z3:IsZip g3 z TI TO .ellipsis:=b3.extBut _ _ (Ne.symm n2) (b2.extBut _ _ (Ne.symm n3) z1)
  refine wpAny_bind (wpAny_bind (wpAny_onRaise ?_));show wpAny _ _ (Builtin.SmallTypes.nextOf (.ref i2) >>=_) _ _ _
  exact wpAny_bind (Je hh (h2.of λ o e=>b3.extBut _ _ (Ne.symm n9) (b2.extBut _ _ (Ne.symm n10) (b1.extBut _ _ n4 e))) p2 (by have:=r2.length;simp;exact ake en this hx) λ g4 e eb ex=>leave I3 z3 f2 n4 eb ex)
end
theorem adt {P:Program} {w:World} {K:PySem.W.Frag} {Cy:List Expr} {kk} {pp:Pos} {z TI TO i1 i2 l1 l2:Addr} {t1 t2:Bool}
  (n1:TI≠z) (n2:TO≠z) (n3:i1≠z) (n4:i2≠z) (n5:TI≠TO) (n6:TI≠i1) (n7:TI≠i2) (n8:TO≠i1) (n9:TO≠i2) (n10:i1≠i2):
  Turn P w K (.Tuple Cy kk pp) (afp K t1 l1 t2 l2) [z,TI,TO,i1,i2] z (λ i h=>Z2 h z TI TO i1 i2 t1 t2 l1 l2 i) where
 mem:=by simp
 obj :=λ i h st b hb=>by
  refine bc λ zQ=>?_
  obtain⟨hz,hTI,⟨x,y,hTO⟩,h1,h2⟩:=st
  apply zQ;clear zQ
  simp only[List.mem_cons,List.not_mem_nil,or_false] at hb
  refine bc λ zQ=>?_
  rcases hb with rfl |rfl |rfl |rfl |rfl
  ·apply zQ;clear zQ
   exact⟨_,hz,λ v q=>by have q':Data.fields _=Data.cell v:=q;injection q'⟩
  ·apply zQ;clear zQ
   exact⟨_,hTI,λ v q=>by have q':Data.seq _=Data.cell v:=q;injection q'⟩
  ·apply zQ;clear zQ
   exact⟨_,hTO,λ v q=>by have q':Data.seq _=Data.cell v:=q;injection q'⟩
  ·apply zQ;clear zQ
   exact h1.obj
  ·apply zQ;clear zQ
   exact h2.obj
 keep:=λ i h h' st k=>by
  refine bc λ zQ=>?_
  obtain⟨hz,hTI,⟨x,y,hTO⟩,h1,h2⟩:=st
  apply zQ;clear zQ
  exact⟨k _ (by simp) _ hz,k _ (by simp) _ hTI,⟨x,y,k _ (by simp) _ hTO⟩,h1.of λ o e=>k _ (by simp) o e,h2.of λ o e=>k _ (by simp) o e⟩
 item := by
  intro X hP hw hK hc i pins s σ H E I hf st hg
  subst hP hw hK
  refine bc λ zQ=>?_
  obtain⟨xs,ys,x,y,q1,e1,q2,e2⟩:=hg
  apply zQ;clear zQ
  have hT:s.TypeIs (.ref z) "zip" :=⟨_,st.z,rfl⟩
  unfold pyNext
  refine wpAny_bind (wpAny_attempt (wpAny_callSpecial?_slot (name:=Str.ofString "__next__") hT F.slot_zip_next (wpAny_call_entry F.slot_zip_next hT F.entry_zip_next
   (adq I (hf z (by simp)) (hf TO (by simp)) (hf i1 (by simp)) (hf i2 (by simp)) n1 n2 n3 n4 n5 n6 n7 n8 n9 n10 st q1 e1 q2 e2 λ h' I' z' ti' to' s1' s2'=>wpAny_pure ⟨_,rfl,?_⟩) (F.args_zip_next_1 _))))
  have hp:H s.heap.objs.size=none:=I.hok.fresh (z0g _)
  have nz:∀b,b∈[z,TI,TO,i1,i2]->b≠s.heap.objs.size:=λ b hb q=>by
   refine bc λ zQ=>?_
   obtain⟨o,e,_⟩:∃o,s.heap.get? b=some o/\True:=by
    obtain⟨hz,hTI,⟨x,y,hTO⟩,h1,h2⟩:=st
    simp only[List.mem_cons,List.not_mem_nil,or_false] at hb
    refine bc λ zQ=>?_
    rcases hb with rfl |rfl |rfl |rfl |rfl
    ·apply zQ;clear zQ
     exact⟨_,hz,trivial⟩
    ·apply zQ;clear zQ
     exact⟨_,hTI,trivial⟩
    ·apply zQ;clear zQ
     exact⟨_,hTO,trivial⟩
    ·apply zQ;clear zQ
     obtain⟨o,e,_⟩:=h1.obj;exact⟨o,e,trivial⟩
    ·apply zQ;clear zQ
     obtain⟨o,e,_⟩:=h2.obj;exact⟨o,e,trivial⟩
   apply zQ;clear zQ
   exact absurd (Heap.lt_size e) (by rw[q];exact Nat.lt_irrefl _)
  refine wpAny_letOwnedTupleGo_zip z' λ h'' z'' b''=>⟨.ref s.heap.objs.size,upd H s.heap.objs.size (.tup [x,y]),I'.fp ((hf z (by simp)).upd (nz z (by simp))) b'',rfl,⟨_,x,y,hp,rfl,rfl,λ xs' q=>by rw[I.Ue q q1];exact e1,λ ys' q=>by rw[I.Ue q q2];exact e2⟩,?_,λ b hb=>?_⟩
  ·obtain⟨a,b,to'⟩:=to'
   exact⟨z'',b''.extBut _ _ n1 ti',⟨a,b,b''.extBut _ _ n2 to'⟩,s1'.of λ o e=>b''.extBut _ _ n3 e,s2'.of λ o e=>b''.extBut _ _ n4 e⟩
  ·rw[upd_ne (nz b hb)];exact (hf b hb).1
 done:=by
  intro X hP hw hK hc i pins s σ H E I hf st hg
  subst hP hw hK
  refine bc λ zQ=>?_
  obtain⟨xs,ys,q1,q2,en⟩:=hg
  apply zQ;clear zQ
  have hT:s.TypeIs (.ref z) "zip" :=⟨_,st.z,rfl⟩
  unfold pyNext
  refine wpAny_bind (wpAny_attempt (wpAny_callSpecial?_slot (name:=Str.ofString "__next__") hT F.slot_zip_next (wpAny_call_entry F.slot_zip_next hT F.entry_zip_next
   (afq (I.ok.hd hc) I (hf z (by simp)) (hf TO (by simp)) (hf i1 (by simp)) (hf i2 (by simp)) n1 n2 n3 n4 n5 n6 n7 n8 n9 n10 st q1 q2 en λ h' e I' ex=>?_) (F.args_zip_next_1 _))))
  refine bc λ zQ=>?_
  obtain⟨o,ho,ec⟩:=ex
  apply zQ;clear zQ
  exact wpAny_bind (wpAny_isInstance (T:= "StopIteration") (b:=true) ⟨o,ho,ec⟩ isSubtype_stop (wpAny_pure ⟨rfl,I'⟩))
 self:=λ Z Z Z Z Z st h=>wpAny_pyIter_zip st.z h
end Pu
namespace Pu
open PySem PySem.Spec L2
open PyProof.Rows hiding St
noncomputable abbrev itR (t:Bool) (l:Addr):Obj:={cls:= .type (itC t),data:= .fields #[.ref l,.int 0 0]}
noncomputable abbrev zA1 (h:Heap) (t1:Bool) (l1:Addr):Heap:=h.push (itR t1 l1)
noncomputable abbrev zA2 (h:Heap) (t1:Bool) (l1:Addr) (t2:Bool) (l2:Addr):Heap:=(zA1 h t1 l1).push (itR t2 l2)
noncomputable abbrev zA3 (h:Heap) (t1:Bool) (l1:Addr) (t2:Bool) (l2:Addr):Heap:=(zA2 h t1 l1 t2 l2).push {cls:= .type "tuple",data:= .seq #[.ref h.objs.size,.ref (zA1 h t1 l1).objs.size]}
noncomputable abbrev zA4 (h:Heap) (t1:Bool) (l1:Addr) (t2:Bool) (l2:Addr):Heap:=(zA3 h t1 l1 t2 l2).push {cls:= .type "tuple",data:= .seq #[.none,.none]}
noncomputable abbrev Z9 (h:Heap) (t1:Bool) (l1:Addr) (t2:Bool) (l2:Addr):Heap:=(zA4 h t1 l1 t2 l2).push {cls:= .type "zip",data:= .fields #[.none,.bool false,.bool false,.ref (zA2 h t1 l1 t2 l2).objs.size,.ref (zA3 h t1 l1 t2 l2).objs.size]}
theorem aaX (t1:Bool) (l1:Addr) (t2:Bool) (l2:Addr) (xs ys:Array Value):Meets (Builtin.«zip.__new__» ⟨[.type "zip",.ref l1,.ref l2],[]⟩)
  (λ Z R s=>um t1 s.heap l1 xs/\um t2 s.heap l2 ys/\R (.ok (.ret (.ref (zA4 s.heap t1 l1 t2 l2).objs.size))) {s with heap:=Z9 s.heap t1 l1 t2 l2}):=
 .of_wp λ prog w A R s h=>by
  obtain⟨hp,g,d,tk,os⟩:=s
  obtain⟨k1,k2,h⟩:=h
  have hsub:=sub_zip
  have L1:um t1 (Shared.heap ⟨hp,g,d,tk,os⟩) l1 xs:=k1
  have L2:um t2 (Shared.heap ⟨zA1 hp t1 l1,g,d,tk,os⟩) l2 ys:=k2.of λ o e=>Heap.get?_push_of_some _ e
  wp_walk using Tf L1,Tf L2
  exact⟨_,rfl,h⟩
section
variable {prog:Program} {w:World} {A:Around} {E:Value->Shared->Prop} {s:Shared}
theorem adu {t1 t2:Bool} {l1 l2:Addr} {xs ys:Array Value} {Q:Value->Shared->Prop} (k1:um t1 s.heap l1 xs) (k2:um t2 s.heap l2 ys)
  (h:∀h',Z2 h' (s.heap.objs.size+4) (s.heap.objs.size+2) (s.heap.objs.size+3) s.heap.objs.size (s.heap.objs.size+1) t1 t2 l1 l2 0->(∀c o,s.heap.get? c=some o->h'.get? c=some o)->Q (.ref (s.heap.objs.size+4)) {s with heap:=h'}):
  wpAny (model prog w) A (call (.type "zip") [.ref l1,.ref l2]) Q E s:=by
 refine callType_new F.called_zip (by decide) (F.typeCall_zip_2 _ _) (F.newCall_zip_2 _ _) (λ obj=>F.args_object_init_3 obj _ _) F.entry_zip_new (aaX t1 l1 t2 l2 xs ys) ⟨k1,k2,?_⟩
 have z1:(zA1 s.heap t1 l1).objs.size=s.heap.objs.size+1:=Heap.size_push ..
 have z2:(zA2 s.heap t1 l1 t2 l2).objs.size=s.heap.objs.size+2:=by rw[Heap.size_push,z1]
 have z3:(zA3 s.heap t1 l1 t2 l2).objs.size=s.heap.objs.size+3:=by rw[Heap.size_push,z2]
 have z4:(zA4 s.heap t1 l1 t2 l2).objs.size=s.heap.objs.size+4:=by rw[Heap.size_push,z3]
 have a5:(Z9 s.heap t1 l1 t2 l2).get? (zA4 s.heap t1 l1 t2 l2).objs.size=some _:=Heap.get?_push_size _ rfl
 have a4:(Z9 s.heap t1 l1 t2 l2).get? (zA3 s.heap t1 l1 t2 l2).objs.size=some _:=Heap.get?_push_of_some _ (Heap.get?_push_size _ rfl)
 have a3:(Z9 s.heap t1 l1 t2 l2).get? (zA2 s.heap t1 l1 t2 l2).objs.size=some _:=Heap.get?_push_of_some _ (Heap.get?_push_of_some _ (Heap.get?_push_size _ rfl))
 have a2:(Z9 s.heap t1 l1 t2 l2).get? (zA1 s.heap t1 l1).objs.size=some (itR t2 l2):=Heap.get?_push_of_some _ (Heap.get?_push_of_some _ (Heap.get?_push_of_some _ (Heap.get?_push_size _ rfl)))
 have a1:(Z9 s.heap t1 l1 t2 l2).get? s.heap.objs.size=some (itR t1 l1):=Heap.get?_push_of_some _ (Heap.get?_push_of_some _ (Heap.get?_push_of_some _ (Heap.get?_push_of_some _ (Heap.get?_push_size _ rfl))))
 show _/\_
 rw[z2,z3,z4] at a5
 rw[z1,z2] at a3
 rw[z3] at a4
 rw[z1] at a2
 rw[z4]
 exact⟨⟨_,a5,rfl⟩,h _ ⟨a5,a3,⟨_,_,a4⟩,.new a1,.new a2⟩ λ c o e=>Heap.get?_push_of_some _ (Heap.get?_push_of_some _ (Heap.get?_push_of_some _ (Heap.get?_push_of_some _ (Heap.get?_push_of_some _ e))))⟩
end
theorem ai0:bootBuiltins "zip" =some (.type "zip"):=by decide +kernel
section
variable {X:Cx} {Cy:List Expr} {kk:Nat} {pp:Pos} {a b:Expr} {p pos:Pos}
noncomputable def amZ (K:PySem.W.Frag) (ta:TA):TI:=λ σ H R=>ta σ H λ vs H1=>∃t1 l1 t2 l2,vs=[.ref l1,.ref l2]/\(∃xs,Sq t1 K H1 l1 xs)/\(∃ys,Sq t2 K H1 l2 ys)/\R (afp K t1 l1 t2 l2) H1
theorem ag9 {ta:TA} (hg:Gl X "zip") (hm:X.mg "zip" =none) (ha:PA X [a,b] ta) (he:autoParam (starEach [a,b] X.env=(false,eval a X.env)::starEach [b] X.env) bB._auto_1) (hpl:autoParam ((backTo pos (starEach [b] X.env)).any (·.1)=false) bB._auto_1):
  PI X (.Tuple Cy kk pp) (.Call (.Name "zip" p) [a,b] [] pos) (amZ X.K ta):=by
 intro pins s σ H R I h
 refine Call_ (ld_blt I hg hm ai0 (PyProof.Rows.callWith_type1 (thn (ha pos pins s σ H _ I h) λ us s1 ⟨vs,H1,I1,r1,q1⟩=>?_) he hpl))
 refine bc λ zQ=>?_
 obtain⟨t1,l1,t2,l2,e,⟨xs,w1⟩,⟨ys,w2⟩,q⟩:=q1
 apply zQ;clear zQ
 subst e
 cases r1 with
 | cons r rr=>
  cases rr with
  | cons r' rr=>
   cases rr
   obtain rfl:=r
   obtain rfl:=r'
   refine bc λ zQ=>?_
   obtain⟨vs1,_,p1⟩:=I1.sq w1
   obtain⟨vs2,_,p2⟩:=I1.sq w2
   apply zQ;clear zQ
   refine adu p1 p2 λ h' st k=>wpAny_pyIter_zip st.z ⟨s1.heap.objs.size+4,[s1.heap.objs.size+4,s1.heap.objs.size+2,s1.heap.objs.size+3,s1.heap.objs.size,s1.heap.objs.size+1],_,_,H1,rfl,I1.kept (t':=s1.toks) k,adt ?_ ?_ ?_ ?_ ?_ ?_ ?_ ?_ ?_ ?_,st,λ c hc=>(by
    have hle:s1.heap.objs.size<=c:=by
     simp only[List.mem_cons,List.not_mem_nil,or_false] at hc
     rcases hc with rfl |rfl |rfl |rfl |rfl <;> first |exact z0g _ |exact Nat.le_add_right _ _
    exact I1.fpOk hle (I1.hok.fresh hle)),q⟩
   all_goals (show @Ne Nat _ _;omega)
end
noncomputable def Jf (xs ys:List D):List D:=(xs.zip ys).map λ p=> .tup [p.1,p.2]
noncomputable def zip2:List D->R (List D):=on2 λ x y=>(jj x).bind λ xs=>(jj y).bind λ ys=> .ok (Jf xs ys)
section
variable {K:PySem.W.Frag} {O:Addr->Prop} {H:Hp}
theorem ai1 (x y:D):zip2 [x,y]=((jj x).bind λ xs=>(jj y).bind λ ys=> .ok (Jf xs ys)):=rfl
structure Src (K:PySem.W.Frag) (O:Addr->Prop) (H:Hp) (t:Bool) (a:Addr) (ds:List D):Prop where
 ex:∃vs,Sq t K H a vs/\aZ K O H ds vs
 no:t=false->¬O a
theorem Ug {d:D} {v:V} {ds:List D} (r:Rep K O H d v) (h:jj d= .ok ds):∃t a,v= .ref a/\Src K O H t a ds:=by
 cases d with
 |tup es=>cases h;obtain⟨a,xs,rfl,q,rs⟩:=r.tup;exact⟨true,a,rfl,⟨xs,q,rs⟩,λ z=>by injection z⟩
 |lst es=>cases h;obtain⟨a,xs,rfl,q,n,rs⟩:=r.lst;exact⟨false,a,rfl,⟨xs,q,rs⟩,λ Z=>n⟩
 |_=>injection h
theorem Src.go {O':Addr->Prop} {H':Hp} {t:Bool} {a:Addr} {ds:List D} (s:Src K O H t a ds) (q:gO K O H O' H'):∃vs,Sq t K H' a vs/\aZ K O' H' ds vs:=by
 obtain⟨vs,h,r⟩:=s.ex
 cases t with
 |true=>exact⟨vs,SqT.ext q.ext h,r.go q⟩
 |false=>exact⟨vs,SqL.ext q.ext (s.no rfl) h,r.go q⟩
theorem afr {xs ys:List D} {i:Nat} {d:D} (h:(Jf xs ys)[i]?=some d):∃x y,xs[i]?=some x/\ys[i]?=some y/\d= .tup [x,y]:=by
 unfold Jf at h
 rw[List.getElem?_map] at h
 cases e:(xs.zip ys)[i]? with
 |none=>rw[e] at h;injection h
 |some p=>rw[e] at h;(injection h with aH;subst aH);obtain⟨h1,h2⟩:=List.getElem?_zip_eq_some.mp e;exact⟨_,_,h1,h2,rfl⟩
theorem YR.zip2 {t1 t2:Bool} {a1 a2:Addr} {xs ys:List D} (s1:Src K O H t1 a1 xs) (s2:Src K O H t2 a2 ys):YR K O H (afp K t1 a1 t2 a2) (Jf xs ys):=by
 intro O' H' q i
 refine bc λ zQ=>?_
 obtain⟨v1,q1,r1⟩:=s1.go q
 obtain⟨v2,q2,r2⟩:=s2.go q
 apply zQ;clear zQ
 refine⟨λ d e=>?_,λ e=>⟨v1,v2,q1,q2,?_⟩⟩
 ·obtain⟨x,y,e1,e2,rfl⟩:=afr e
  refine bc λ zQ=>?_
  obtain⟨u1,g1,w1⟩:=r1.get e1
  obtain⟨u2,g2,w2⟩:=r2.get e2
  apply zQ;clear zQ
  refine⟨⟨v1,v2,u1,u2,q1,g1,q2,g2⟩,λ x H2 y=>?_⟩
  refine bc λ zQ=>?_
  obtain⟨p,x1,x2,hp,rfl,rfl,k1,k2⟩:=y
  apply zQ;clear zQ
  have k1:=k1 _ q1
  have k2:=k2 _ q2
  rw[g1] at k1;(injection k1 with aH;subst aH)
  rw[g2] at k2;(injection k2 with aH;subst aH)
  exact⟨Same.upd hp,jz (SqT.of upd_same) ((aZ.cons w1 (.cons w2 .nil)).same (Same.upd hp))⟩
 ·rw[<-r1.length,<-r2.length]
  simp only[Jf,List.length_map,List.length_zip] at e
  exact akf e
end
section
variable {X:Cx} {Cy:List Expr} {kk:Nat} {pp:Pos} {a b:Expr} {p pos:Pos} {fa:aq->R (List D)}
theorem M5 (hg:Gl X "zip") (hm:X.mg "zip" =none) (ha:DA X [a,b] fa) (he:autoParam (starEach [a,b] X.env=(false,eval a X.env)::starEach [b] X.env) bB._auto_1) (hpl:autoParam ((backTo pos (starEach [b] X.env)).any (·.1)=false) bB._auto_1):
  DI X (.Tuple Cy kk pp) (.Call (.Name "zip" p) [a,b] [] pos) (λ ρ=>(fa ρ).bind zip2):=by
 refine PI.imp (ag9 hg hm ha he hpl) λ σ H Q q=>?_
 refine bc λ zQ=>?_
 obtain⟨ρ,O,j,q⟩:=q
 apply zQ;clear zQ
 refine go j q λ ds vs H1 e1 s1 r1 j1 h1=>?_
 replace h1:=aiJ h1
 refine bc λ zQ=>?_
 obtain⟨x,y,rfl,h1⟩:=h1
 apply zQ;clear zQ
 ·skip
  refine bc λ zQ=>?_
  obtain⟨v1,v2,rfl,w1,w2⟩:=r1.two
  apply zQ;clear zQ
  refine bc λ zQ=>?_
  cases ex:jj x with
  |bad=>rw[ex] at h1;exact h1.elim
  |err c=>rw[ex] at h1;cases x <;> injection ex
  | ok xs=>
   apply zQ;clear zQ
   refine bc λ zQ=>?_
   cases ey:jj y with
   |bad=>rw[ex,R.bL,ey] at h1;exact h1.elim
   |err c=>cases y <;> injection ey
   | ok ys=>
    apply zQ;clear zQ
    rw[ex,R.bL,ey,R.bL] at h1
    refine bc λ zQ=>?_
    obtain⟨t1,a1,rfl,c1⟩:=Ug w1 ex
    obtain⟨t2,a2,rfl,c2⟩:=Ug w2 ey
    obtain⟨vs1,k1,_⟩:=c1.ex
    obtain⟨vs2,k2,_⟩:=c2.ex
    apply zQ;clear zQ
    exact⟨t1,a1,t2,a2,rfl,⟨vs1,k1⟩,⟨vs2,k2⟩,fin h1 (YR.zip2 c1 c2)⟩
end
end Pu
namespace Pu
open PySem PySem.Spec L2
open PyProof.Rows hiding St
section
variable {X:Cx} {pins:List (Addr×Obj)} {σ:St} {H:Hp} {s:Shared} {A':Around} {E:Value->Shared->Prop}
end
section
variable {prog:Program} {w:World} {A:Around} {E:Value->Shared->Prop} {s:Shared}
end
section
variable {X:Cx} {Cy:List Expr} {kk:Nat} {pp:Pos} {a b c:Expr} {p pos:Pos}
end
section
variable {K:PySem.W.Frag} {O:Addr->Prop} {H:Hp}
theorem aZ.three {d e f:D} {xs:List V} (r:aZ K O H [d,e,f] xs):∃x y z,xs=[x,y,z]/\Rep K O H d x/\Rep K O H e y/\Rep K O H f z:=by
 obtain⟨x,t,rfl,h1,h2⟩:=r.cons_inv
 obtain⟨y,z,rfl,h3,h4⟩:=h2.two
 exact⟨x,y,z,rfl,h1,h3,h4⟩
end
section
variable {X:Cx} {Cy:List Expr} {kk:Nat} {pp:Pos} {a b c:Expr} {p pos:Pos} {fa:aq->R (List D)}
theorem X3 {x:D} {c:Str} (h:jj x= .err c):False:=by cases x <;> injection h
end
end Pu
namespace Pu
open PySem PySem.Spec L2
open PyProof.Rows hiding St
end Pu
namespace Pu
open PySem PySem.Spec L2
open PyProof.Rows hiding St
section
variable {X:Cx}
theorem aac:∀{ns:List Int} {its:List Value},Vals (ns.map V.int) its->IntsAre its ns
 |[],_,r=>by cases r;exact .nil
 | n::ns,_,r=>by
  cases r with
  |cons h t=>obtain⟨tk,rfl⟩:=h;exact .cons n tk (aac t)
theorem Qc {K:PySem.W.Frag} {O:Addr->Prop} {H:Hp}:∀{ds:List D} {ns:List Int} {vs:List V},intsOf ds=some ns->aZ K O H ds vs->vs=ns.map V.int
 |[],ns,vs,e,r=>by (injection e with aH;subst aH);exact r.nil_inv
 | d ::ds,ns,vs,e,r=>by
  obtain⟨x,t,rfl,h1,h2⟩:=r.cons_inv
  cases d with
  | int i=>
   have e:(intsOf ds).map (i:: ·)=some ns:=e
   cases q:intsOf ds with
   |none=>rw[q] at e;injection e
   |some l=>rw[q] at e;(injection e with aH;subst aH);rw[h1.int,Qc q h2];rfl
  |_=>injection e
theorem Dv {K:PySem.W.Frag} {O:Addr->Prop} {H:Hp}:∀{ns:List Int},aZ K O H (ns.map D.int) (ns.map V.int)
 |[]=> .nil
 |_::_=> .cons (cO _) Dv
variable {pos:Pos}
end
end Pu
namespace Pu
open PySem PySem.Spec L2
open PyProof.Rows hiding St
noncomputable def Ite (K:PySem.W.Frag) (t:Bool) (l:Addr):It:=
 ⟨λ i H=>∃xs x,Sq t K H l xs/\xs[i]?=some x,
  λ i H v H'=>∃p x,H p=none/\v= .ref p/\H'=upd H p (.tup [.int (i:Int),x])/\∀xs,Sq t K H l xs->xs[i]?=some x,
  λ i H=>∃xs,Sq t K H l xs/\xs.length<=i⟩
section
variable {X:Cx} {pins:List (Addr×Obj)} {σ:St} {H:Hp} {s:Shared} {A':Around} {E:Value->Shared->Prop}
theorem adv {e it l:Addr} {t:Bool} {k:Nat} {xs:List V} {x:V} {old:Value} {Q:Value->Shared->Prop} (I:Inv X pins σ H s) (fe:FpOk X pins H e) (fi:FpOk X pins H it) (ne:e≠it)
  (he:IsEnum s.heap e it k old) (hs:pX t s.heap it l k) (q:Sq t X.K H l xs) (ex:xs[k]?=some x)
  (hQ:∀h' u,Inv X pins σ (upd H s.heap.objs.size (.tup [.int (k:Int),x])) {s with heap:=h',toks:=s.toks+1}->IsEnumOut h' e it ((k:Int)+1) u s.heap.objs.size->pX t h' it l (k+1)->Q (.ref s.heap.objs.size) {s with heap:=h',toks:=s.toks+1}):
  wpAny (model X.prog X.w) A' (Builtin.«enumerate.__next__» ⟨[.ref e],[]⟩) (λ fin s'=>∃v,fin= .done (.ret v)/\Q v s') E s:=by
 obtain⟨us,r1,p1⟩:=I.sq q
 obtain⟨u,hu,ru⟩:=r1.get ex
 obtain⟨hp,g,d,tk,os⟩:=s
 show wpAny _ _ (field (.ref e) 2 >>=_) _ _ _;refine wpAny_bind (wpAny_field he rfl (x:= .ref it) rfl ?_)
 refine wpAny_bind (Te hs p1 (v:=u) (by simpa using hu) λ g1 s1 b1=>?_)
 have I1:=I.fp fi b1
 replace b1:Heap.SameBut it hp g1:=b1
 have e1:IsEnum g1 e it k old:=(b1.2 e ne).trans he
 show wpAny _ _ (field (.ref e) 3 >>=_) _ _ ⟨g1,g,d,tk,os⟩;refine wpAny_bind (wpAny_field e1 rfl (x:=rawInt k) rfl ?_)
 show wpAny _ _ (field (.ref e) 4 >>=_) _ _ ⟨g1,g,d,tk,os⟩;refine wpAny_bind (wpAny_field e1 rfl (x:= .none) rfl ?_)
 show wpAny _ _ (mkInt k >>=_) _ _ ⟨g1,g,d,tk,os⟩;refine wpAny_bind (wpAny_mkInt ?_)
 have I1':Inv X pins σ H ⟨g1,g,d,tk+1,os⟩:=Inv.tok (s:=⟨g1,g,d,tk,os⟩) I1 (tk+1)
 show wpAny _ _ (setField (.ref e) 3 (rawInt ((k:Int)+1)) >>=_) _ _ ⟨g1,g,d,tk+1,os⟩
 refine wpAny_bind (wpAny_setField_rec e1 (by simp) λ g2 e2 b2=>?_)
 have I2:=I1'.fp fe b2
 replace b2:Heap.SameBut e g1 g2:=b2
 replace e2:IsEnum g2 e it ((k:Int)+1) old:=e2
 show wpAny _ _ (setField (.ref e) 4 .none >>=_) _ _ ⟨g2,g,d,tk+1,os⟩
 refine wpAny_bind (wpAny_setField_rec e2 (by simp) λ g3 e3 b3=>?_)
 have I3:=I2.fp fe b3
 replace b3:Heap.SameBut e g2 g3:=b3
 replace e3:IsEnum g3 e it ((k:Int)+1) old:=e3
 show wpAny _ _ (newTuple [.int k tk,u] >>=_) _ _ ⟨g3,g,d,tk+1,os⟩;refine wpAny_bind (wpAny_newTuple ?_)
 have sz:g3.objs.size=hp.objs.size:=by rw[b3.1,b2.1,b1.1]
 have lt:e≠g3.objs.size:=Nat.ne_of_lt (Heap.lt_size e3)
 have I4:Inv X pins σ (upd H g3.objs.size (.tup [.int (k:Int),x])) ⟨g3.push {cls:= .type "tuple",data:= .seq #[.int k tk,u]},g,d,tk+1,os⟩:=
  Inv.laid (s:=⟨g3,g,d,tk+1,os⟩) (t':=tk+1) I3 (λ b u e=>Heap.get?_push_of_some _ e) (z0g _) ⟨adp,[.int k tk,u],.cons ⟨tk,rfl⟩ (.cons ru .nil),⟨_,Heap.get?_push_size _ rfl,rfl,_,rfl⟩⟩
 have e4:IsEnum (g3.push {cls:= .type "tuple",data:= .seq #[.int k tk,u]}) e it ((k:Int)+1) old:=Heap.get?_push_of_some _ e3
 have s4:pX t (g3.push {cls:= .type "tuple",data:= .seq #[.int k tk,u]}) it l (k+1):=s1.of λ o z=>Heap.get?_push_of_some _ (b3.extBut _ _ (Ne.symm ne) (b2.extBut _ _ (Ne.symm ne) z))
 show wpAny _ _ (Builtin.SmallTypes.ownedTupleIsFree (.ref e) >>=_) _ _ ⟨g3.push {cls:= .type "tuple",data:= .seq #[.int k tk,u]},g,d,tk+1,os⟩
 generalize g3.push {cls:= .type "tuple",data:= .seq #[.int k tk,u]}=g4 at *
 refine wpAny_bind ?_
 unfold Builtin.SmallTypes.ownedTupleIsFree
 refine wpAny_bind (wpAny_field e4 rfl (x:= .none) rfl (wpAny_pure ?_));simp only[if_true]
 refine wpAny_bind (wpAny_rule (wpAny_bind (wpAny_field e4 rfl (x:=old) rfl ?_)))
 refine wpAny_bind (wpAny_setField_rec e4 (by simp) λ g5 e5 b5=>?_)
 have I5:=I4.fp (fe.upd lt) b5
 replace b5:Heap.SameBut e g4 g5:=b5
 replace e5:IsEnum g5 e it ((k:Int)+1) u:=e5
 show wpAny _ _ (Builtin.SmallTypes.ownedTupleHandOut (.ref e) (.ref g3.objs.size) >>=_) _ _ ⟨g5,g,d,tk+1,os⟩;refine wpAny_bind ?_
 unfold Builtin.SmallTypes.ownedTupleHandOut
 refine wpAny_bind (wpAny_setField_rec e5 (by simp) λ g6 e6 b6=>?_)
 have I6:=I5.fp (fe.upd lt) b6
 replace b6:Heap.SameBut e g5 g6:=b6
 replace e6:IsEnumOut g6 e it ((k:Int)+1) u g3.objs.size:=e6
 refine wpAny_setField_rec e6 (by simp) λ g7 e7 b7=>?_
 have I7:=I6.fp (fe.upd lt) b7
 replace b7:Heap.SameBut e g6 g7:=b7
 replace e7:IsEnumOut g7 e it ((k:Int)+1) u g3.objs.size:=e7
 refine wpAny_bind (wpAny_letGo (wpAny_pure ⟨_,rfl,?_⟩))
 rw[sz] at I7 e7
 show Q (.ref g3.objs.size) _
 rw[sz]
 exact hQ g7 u I7 e7 (s4.of λ o z=>b7.extBut _ _ (Ne.symm ne) (b6.extBut _ _ (Ne.symm ne) (b5.extBut _ _ (Ne.symm ne) z)))
end
theorem adw {P:Program} {w:World} {K:PySem.W.Frag} {Cy:List Expr} {kk} {pp:Pos} {e it l:Addr} {t:Bool} (ne:e≠it):
  Turn P w K (.Tuple Cy kk pp) (Ite K t l) [e,it] e (λ i h=>(∃old,IsEnum h e it i old)/\pX t h it l i) where
 mem:=by simp
 obj :=λ i h st b hb=>by
  refine bc λ zQ=>?_
  obtain⟨⟨old,he⟩,hs⟩:=st
  apply zQ;clear zQ
  simp only[List.mem_cons,List.not_mem_nil,or_false] at hb
  refine bc λ zQ=>?_
  rcases hb with rfl |rfl
  ·apply zQ;clear zQ
   exact⟨_,he,λ v q=>by have q':Data.fields _=Data.cell v:=q;injection q'⟩
  ·apply zQ;clear zQ
   exact hs.obj
 keep:=λ i h h' st k=>by
  refine bc λ zQ=>?_
  obtain⟨⟨old,he⟩,hs⟩:=st
  apply zQ;clear zQ
  exact⟨⟨old,k _ (by simp) _ he⟩,hs.of λ o z=>k _ (by simp) o z⟩
 item := by
  intro X hP hw hK hc i pins s σ H E I hf st hg
  subst hP hw hK
  refine bc λ zQ=>?_
  obtain⟨⟨old,he⟩,hs⟩:=st
  obtain⟨xs,x,q,ex⟩:=hg
  apply zQ;clear zQ
  have hT:s.TypeIs (.ref e) "enumerate" :=⟨_,he,rfl⟩
  have hp:H s.heap.objs.size=none:=I.hok.fresh (z0g _)
  have nz:∀b,b∈[e,it]->b≠s.heap.objs.size:=λ b hb z=>by
   refine bc λ zQ=>?_
   obtain⟨o,eo⟩:∃o,s.heap.get? b=some o:=by
    simp only[List.mem_cons,List.not_mem_nil,or_false] at hb
    refine bc λ zQ=>?_
    rcases hb with rfl |rfl
    ·apply zQ;clear zQ
     exact⟨_,he⟩
    ·apply zQ;clear zQ
     obtain⟨o,eo,_⟩:=hs.obj;exact⟨o,eo⟩
   apply zQ;clear zQ
   exact absurd (Heap.lt_size eo) (by rw[z];exact Nat.lt_irrefl _)
  unfold pyNext
  refine wpAny_bind (wpAny_attempt (wpAny_callSpecial?_slot (name:=Str.ofString "__next__") hT F.slot_enumerate_next (wpAny_call_entry F.slot_enumerate_next hT F.entry_enumerate_next
   (adv I (hf e (by simp)) (hf it (by simp)) ne he hs q ex λ h' u I' e' s'=>wpAny_pure ⟨_,rfl,?_⟩) (F.args_enumerate_next_1 _))))
  refine wpAny_letOwnedTupleGo_enum e' λ h'' e'' b''=>⟨.ref s.heap.objs.size,upd H s.heap.objs.size (.tup [.int (i:Int),x]),I'.fp ((hf e (by simp)).upd (nz e (by simp))) b'',rfl,⟨_,x,hp,rfl,rfl,λ xs' q'=>by rw[I.Ue q' q];exact ex⟩,⟨⟨u,by simpa using e''⟩,s'.of λ o z=>b''.extBut _ _ (Ne.symm ne) z⟩,λ b hb=>?_⟩
  rw[upd_ne (nz b hb)];exact (hf b hb).1
 done:=by
  intro X hP hw hK hc i pins s σ H E I hf st hg
  subst hP hw hK
  refine bc λ zQ=>?_
  obtain⟨⟨old,he⟩,hs⟩:=st
  obtain⟨xs,q,en⟩:=hg
  obtain⟨us,r1,p1⟩:=I.sq q
  apply zQ;clear zQ
  have hT:s.TypeIs (.ref e) "enumerate" :=⟨_,he,rfl⟩
  unfold pyNext
  refine wpAny_bind (wpAny_attempt (wpAny_callSpecial?_slot (name:=Str.ofString "__next__") hT F.slot_enumerate_next (wpAny_call_entry F.slot_enumerate_next hT F.entry_enumerate_next ?_ (F.args_enumerate_next_1 _))))
  show wpAny _ _ (field (.ref e) 2 >>=_) _ _ _;refine wpAny_bind (wpAny_field he rfl (x:= .ref it) rfl ?_)
  refine wpAny_bind (Je (I.ok.hd hc) hs p1 (by have:=r1.length;simp;exact PB this en) λ g1 x eb bY=>?_)
  refine bc λ zQ=>?_
  obtain⟨o,ho,ec⟩:=bY
  apply zQ;clear zQ
  exact wpAny_bind (wpAny_isInstance (T:= "StopIteration") (b:=true) ⟨o,ho,ec⟩ isSubtype_stop (wpAny_pure ⟨rfl,I.fpE (hf it (by simp)) eb⟩))
 self:=λ Z Z Z Z Z st h=>by
  refine bc λ zQ=>?_
  obtain⟨⟨old,he⟩,_⟩:=st
  apply zQ;clear zQ
  exact wpAny_pyIter_enum he h
theorem X4 (t:Bool) (l:Addr) (xs:Array Value):Meets (Builtin.«enumerate.__new__» ⟨[.type "enumerate",.ref l],[]⟩)
  (λ Z R s=>um t s.heap l xs/\R (.ok (.ret (.ref (s.heap.push (itR t l)).objs.size))) {s with heap:=(s.heap.push (itR t l)).push {cls:= .type "enumerate",data:= .fields #[.none,.bool false,.ref s.heap.objs.size,rawInt 0,.none,.none]}}):=
 .of_wp λ prog w A R s h=>by
  obtain⟨hp,g,d,tk,os⟩:=s
  obtain⟨k1,h⟩:=h
  have hsub:=sub_enumerate
  have L1:um t (Shared.heap ⟨hp,g,d,tk,os⟩) l xs:=k1
  wp_walk using Tf L1
  refine wpAny_stack_any λ st=>wpAny_pure ?_
  generalize PySem.Builtin.SmallTypes.calledThroughType.match_1 _ _ _ _=bb
  cases bb <;> (wp_walk using Tf L1;exact⟨_,rfl,h⟩)
section
variable {prog:Program} {w:World} {A:Around} {E:Value->Shared->Prop} {s:Shared}
theorem aaY {t:Bool} {l:Addr} {xs:Array Value} {Q:Value->Shared->Prop} (k1:um t s.heap l xs)
  (h:∀h',IsEnum h' (s.heap.objs.size+1) s.heap.objs.size 0 .none->pX t h' s.heap.objs.size l 0->(∀c o,s.heap.get? c=some o->h'.get? c=some o)->Q (.ref (s.heap.objs.size+1)) {s with heap:=h'}):
  wpAny (model prog w) A (call (.type "enumerate") [.ref l]) Q E s:=by
 refine callType_new F.called_enumerate (by decide) (F.typeCall_enumerate_1 _) (F.newCall_enumerate_1 _) (λ obj=>F.args_object_init_2 obj _) F.entry_enumerate_new (X4 t l xs) ⟨k1,?_⟩
 have z1:(s.heap.push (itR t l)).objs.size=s.heap.objs.size+1:=Heap.size_push ..
 have a2:((s.heap.push (itR t l)).push {cls:= .type "enumerate",data:= .fields #[.none,.bool false,.ref s.heap.objs.size,rawInt 0,.none,.none]}).get? (s.heap.push (itR t l)).objs.size=some _:=Heap.get?_push_size _ rfl
 show _/\_
 rw[z1] at a2 |-
 exact⟨⟨_,a2,rfl⟩,h _ a2 (.new (Heap.get?_push_of_some _ (Heap.get?_push_size _ rfl))) λ c o e=>Heap.get?_push_of_some _ (Heap.get?_push_of_some _ e)⟩
end
section
variable {X:Cx} {Cy:List Expr} {kk:Nat} {pp:Pos} {a:Expr} {p pos:Pos} {fa:aq->R (List D)}
noncomputable def am0 (K:PySem.W.Frag) (ta:TA):TI:=λ σ H R=>ta σ H λ vs H1=>∃t l,vs=[.ref l]/\(∃xs,Sq t K H1 l xs)/\R (Ite K t l) H1
theorem aha {ta:TA} (hg:Gl X "enumerate") (hm:X.mg "enumerate" =none) (ha:PA X [a] ta) (he:autoParam (starEach [a] X.env=(false,eval a X.env)::starEach [] X.env) bB._auto_1) (hpl:autoParam ((backTo pos (starEach [] X.env)).any (·.1)=false) bB._auto_1):
  PI X (.Tuple Cy kk pp) (.Call (.Name "enumerate" p) [a] [] pos) (am0 X.K ta):=by
 intro pins s σ H R I h
 refine Call_ (ld_blt I hg hm boot_enumerate (PyProof.Rows.callWith_type1 (thn (ha pos pins s σ H _ I h) λ us s1 ⟨vs,H1,I1,r1,q1⟩=>?_) he hpl))
 refine bc λ zQ=>?_
 obtain⟨t,l,e,⟨xs,w1⟩,q⟩:=q1
 apply zQ;clear zQ
 subst e
 cases r1 with
 | cons r rr=>
  cases rr
  obtain rfl:=r
  refine bc λ zQ=>?_
  obtain⟨vs1,_,p1⟩:=I1.sq w1
  apply zQ;clear zQ
  refine aaY p1 λ h' e' s' k=>wpAny_pyIter_enum e' ⟨s1.heap.objs.size+1,[s1.heap.objs.size+1,s1.heap.objs.size],_,_,H1,rfl,I1.kept (t':=s1.toks) k,adw ?_,⟨⟨_,e'⟩,s'⟩,λ c hc=>(by
    have hle:s1.heap.objs.size<=c:=by
     simp only[List.mem_cons,List.not_mem_nil,or_false] at hc
     rcases hc with rfl |rfl <;> first |exact z0g _ |exact Nat.le_add_right _ _
    exact I1.fpOk hle (I1.hok.fresh hle)),q⟩
  all_goals (show @Ne Nat _ _;exact akg)
noncomputable def rW:Nat->List D->List D
 |_,[]=>[]
 |n,d::ds=> .tup [.int (n:Int),d]::rW (n+1) ds
theorem ahb (n:Nat):rW n []=[]:=rfl
theorem Hs (n:Nat) (d:D) (ds:List D):rW n (d::ds)= .tup [.int (n:Int),d]::rW (n+1) ds:=rfl
theorem Qd:∀{ds:List D} {n i:Nat} {d:D},(rW n ds)[i]?=some d->∃x,ds[i]?=some x/\d= .tup [.int ((n+i:Nat):Int),x]
 |[],_,_,_,h=>by simp[ahb] at h
 |x::ds,n,0,d,h=>by simp[Hs] at h;exact⟨x,rfl,by rw[<-h];rfl⟩
 | x::ds,n,i+1,d,h=>by
  rw[Hs,List.getElem?_cons_succ] at h
  obtain⟨y,e1,e2⟩:=Qd h
  exact⟨y,by rw[List.getElem?_cons_succ];exact e1,by rw[e2,show n+1+i=n+(i+1) by exact Nat.add_right_comm _ _ _]⟩
theorem Qe:∀{ds:List D} {n:Nat},(rW n ds).length=ds.length
 |[],_=>rfl
 |_::ds,n=>by rw[Hs,List.length_cons,Qe,List.length_cons]
noncomputable def rY:List D->R (List D):=on1 λ x=>(jj x).bind λ xs=> .ok (rW 0 xs)
theorem ahc (x:D):rY [x]=((jj x).bind λ xs=> .ok (rW 0 xs)):=rfl
theorem YR.enum {K:PySem.W.Frag} {O:Addr->Prop} {H:Hp} {t:Bool} {a:Addr} {xs:List D} (s1:Src K O H t a xs):YR K O H (Ite K t a) (rW 0 xs):=by
 intro O' H' q i
 obtain⟨v1,q1,r1⟩:=s1.go q
 refine⟨λ d e=>?_,λ e=>⟨v1,q1,?_⟩⟩
 ·obtain⟨x,e1,rfl⟩:=Qd e
  obtain⟨u1,g1,w1⟩:=r1.get e1
  refine⟨⟨v1,u1,q1,g1⟩,λ x H2 y=>?_⟩
  obtain⟨p,x1,hp,rfl,rfl,k1⟩:=y
  have k1:=k1 _ q1
  rw[g1] at k1;(injection k1 with aH;subst aH)
  rw[Nat.zero_add]
  exact⟨Same.upd hp,jz (SqT.of upd_same) ((aZ.cons (cO _) (.cons w1 .nil)).same (Same.upd hp))⟩
 ·rw[<-r1.length,<-Qe (n:=0)];exact e
theorem uK (hg:Gl X "enumerate") (hm:X.mg "enumerate" =none) (ha:DA X [a] fa) (he:autoParam (starEach [a] X.env=(false,eval a X.env)::starEach [] X.env) bB._auto_1) (hpl:autoParam ((backTo pos (starEach [] X.env)).any (·.1)=false) bB._auto_1):
  DI X (.Tuple Cy kk pp) (.Call (.Name "enumerate" p) [a] [] pos) (λ ρ=>(fa ρ).bind rY):=by
 refine PI.imp (aha hg hm ha he hpl) λ σ H Q q=>?_
 obtain⟨ρ,O,j,q⟩:=q
 refine go j q λ ds vs H1 e1 s1 r1 j1 h1=>?_
 replace h1:=aiI h1
 obtain⟨x,rfl,h1⟩:=h1
 ·skip
  obtain⟨v1,rfl,w1⟩:=r1.one
  cases ex:jj x with
  |bad=>rw[ex] at h1;exact h1.elim
  |err c=>exact (X3 ex).elim
  | ok xs=>
   rw[ex,R.bL] at h1
   obtain⟨t1,a1,rfl,c1⟩:=Ug w1 ex
   obtain⟨vs1,k1,_⟩:=c1.ex
   exact⟨t1,a1,rfl,⟨vs1,k1⟩,fin h1 (YR.enum c1)⟩
end
end Pu
namespace Pu
open PySem PySem.Spec L2
open PyProof.Rows hiding St
section
variable {prog:Program} {w:World} {A:Around} {E:Value->Shared->Prop} {s:Shared}
end
section
variable {X:Cx} {a:Expr} {p pos p2 pos2:Pos} {fa:aq->R (List D)}
noncomputable def ai2 (K:PySem.W.Frag) (ta:TA):TE:=λ σ H Q=>ta σ H λ vs H1=>∃j:Int,vs=[.int j]/\0<=j/\j<=1000/\∀q,H1 q=none->Q (.ref q) (upd H1 q (.rng 0 j))
theorem ai3 {ta:TA} (hg:Gl X "range") (hm:X.mg "range" =none) (ha:PA X [a] ta) (hs:autoParam (starEach [a] X.env=[(false,eval a X.env)]) bB._auto_1):PE X (.Call (.Name "range" p) [a] [] pos) (ai2 X.K ta):=by
 intro pins s σ H Q I h
 refine Call_ (ld_blt I hg hm boot_range (PyProof.Rows.callWith_type1 (thn (ha pos pins s σ H _ I h) λ us s1 ⟨vs,H1,I1,r1,q1⟩=>?_) hs rfl))
 obtain⟨j,e,h0,h1,q⟩:=q1
 subst e
 cases r1 with
 | cons r rr=>
  cases rr
  obtain⟨t,rfl⟩:=r
  refine call_range_1 ?_
  exact⟨.ref s1.heap.objs.size,upd H1 s1.heap.objs.size (.rng 0 j),I1.laid (λ b o e=>Heap.get?_push_of_some _ e) (z0g _) ⟨_,_,_,Heap.get?_push_size _ rfl⟩,rfl,q _ (I1.hok.fresh (z0g _))⟩
end
end Pu
namespace Pu
open PySem PySem.Spec L2
open PyProof.Rows hiding St
section
variable {X:Cx} {e:Expr} {f:aq->R D} {pos:Pos}
noncomputable def afs (K:PySem.W.Frag) (mg:Str->Option Value) (x:Str) (ss:List Str):Prop:=∃a,mg x=some (.ref a)/\∀H,SqT K H a (ss.map V.str)
theorem Qf {K:PySem.W.Frag} {O:Addr->Prop} {H:Hp}:∀{ss:List Str},aZ K O H (ss.map D.str) (ss.map V.str)
 |[]=> .nil
 |_::_=> .cons (Mr _) Qf
theorem ahd {x:Str} {ss:List Str} {pos:Pos} (hg:Gl X x) (h:afs X.K X.mg x ss) (hd:autoParam ((x ==("__debug__" :Str))=false) dM._auto_1):DE X (.Name x pos) (λ Z=> .ok (.tup (ss.map D.str))):=by
 obtain⟨a,hm,hq⟩:=h
 exact Ms (pe_glob (v:= .ref a) hg hm rfl hd) λ Z H=>jz (hq H) Qf
end
theorem ahe {K:PySem.W.Frag} {h:Heap} {mg:Str->Option Value} {x:Str} {ss:List Str} {a:Addr} {od:Option Addr} {its:Array Value} {n:Nat} {sl:Array (Option Value)} (X:K.In h) (G:h.Ns mainGlobals mg)
  (y:PySem.W.nsIn K mainGlobals x=some (some (.ref a))) (l:K.lookup a=some ⟨.type "tuple",od,.seq its n,sl⟩) (hz:its.size<=sizeLine) (hv:Vals (ss.map V.str) its.toList):afs K mg x ss:=
 ⟨a,PySem.W.mg_of X G y,λ Z=> .inr ⟨_,its,n,l,rfl,rfl,hz,hv⟩⟩
end Pu
namespace Pu
open PySem PySem.Spec L2
open PyProof.Rows hiding St
section
variable {X:Cx}
end
end Pu
namespace Pu
open PySem PySem.Spec L2
open PyProof.Rows hiding St
section
variable {X:Cx}
inductive aft (XB:Cx) (K:PySem.W.Frag) (O:Addr->Prop) (H2:Hp) (Dd:Addr) (fp:List Addr) (tn:Nat->Heap->Prop) (ρ0:aq) (xs:List D) (F:D->R (Option D)) (all:List D) (n:Nat) (s':Shared):Prop
 |mk (i:Nat) (σ':St) (H':Hp) (ys:List V) (ds rest:List D) (en:n=xs.length+1 - i) (hil:i<=xs.length) (I:Inv XB [] σ' H' s') (st:tn i s'.heap) (fr:∀b∈fp,H' b=none) (j:In XB O H' ρ0 σ') (sm:Same H2 H') (hD:H' Dd=some (.lst ys)) (rp:aZ K O H' ds ys) (hm:mq F (xs.drop i)= .ok rest) (hr:ds++rest=all):aft XB K O H2 Dd fp tn ρ0 xs F all n s'
theorem Uh {tg iter elt:Expr} {ifs:List Expr} {scope:Scope} {pos pos2:Pos} {fi:aq->R (List D)} {gt:D->aq->R aq} {ft:aq->R Bool} {fe:aq->R D} (ts:List Str) (caps:List Nat)
  (hc:X.calm=true) (hb:Tt X.env.scope scope ts X.N=true) (hcap:(fD scope).map (λ x=>pL x X.N)=caps)
  (hi:DI X tg iter fi) (hk:zm ts.length gt) (hg:∀C s H ex,(dB X scope ts C s H ex).N.Nodup->DG (dB X scope ts C s H ex) tg gt) (ht:∀C s H ex,DTs (dB X scope ts C s H ex) ifs ft) (he:∀C s H ex,DE (dB X scope ts C s H ex) elt fe)
  (hs:∀x,foldedSetIterable iter X.env x=pure x) {use:Option (Value->Sem Unit)} {Qr:Value->Shared->Prop} {pins:List (Addr×Obj)} {s:Shared} {σ:St} {H:Hp} {ρ:aq} {O:Addr->Prop} {Q:VK} (I:Inv X pins σ H s) (j:In X O H ρ σ)
  (hQ:∀(v:V) (H':Hp) (s5:Shared) (C:Addr) (m:Str->Option Value) (f:Flow) (acc:Value),Q v H'->Inv X pins σ H' s5->s5.heap.Ns C m->FpOk X pins H' C->RelV v acc->compPost (model X.prog X.w) X.A X.xe use Qr acc C (.ok f) s5)
  (h:good X (rD X) O (cj ts.length caps fi gt ft fe ρ) σ H Q):
  wpAny (model X.prog X.w) X.A (comprehension (.ListComp elt [⟨tg,iter,ifs,0⟩] scope pos) scope X.env pos2 (newList []) false (eval iter X.env) use) Qr X.xe s:=by
 have B:=amW hb
 refine wpAny_comprehension_free (cl:=jx X.env.cells scope.names []) (use:=use) rfl hs (aaO λ x hx e=>?_) B.kind B.loc ?_
 ·obtain⟨n,k⟩:=x
  have e:k= .free:=e
  subst e
  exact I.ok.has n (B.out n (uW hx))
 refine thn (hi pins s σ H (λ J H1=>∃xs,YR X.K O H1 J xs/\In X O H1 ρ σ/\good X (rD X) O ((mq (qz gt ft fe (G8 ts.length caps ρ)) xs).bind (cap .lst)) σ H1 Q) I (Pu.go j h λ xs J H1 e1 s1 y1 j1 h1=>⟨xs,y1,j1,h1⟩)) λ xv s1 h1=>thn h1 λ itv s2 h2=>?_
 refine bc λ zQ=>?_
 obtain⟨it,fp,tn,J,H2,e,I2,T,st2,f2,xs,yr,j2,g2⟩:=h2
 apply zQ;clear zQ
 subst e
 rw[<-aaQ hcap] at g2
 generalize eρ:pull X.N (fD scope) ts.length (ρ.map Ag)=ρ0 at g2
 refine bc λ zQ=>?_
 obtain⟨all,hall,hlen,g3⟩:∃all,mq (qz gt ft fe ρ0) xs= .ok all/\all.length<=1000000/\good X (rD X) O (.ok (.lst all)) σ H2 Q:=by
  cases e:mq (qz gt ft fe ρ0) xs with
  |bad=>rw[e] at g2;exact g2.elim
  |err c=>exact absurd e J2
  | ok all=>
   rw[e] at g2
   have g2:good X (rD X) O (if all.length<=1000000 then .ok (.lst all) else .bad) σ H2 Q:=g2
   by_cases hl:all.length<=1000000
   ·rw[if_pos hl] at g2;exact⟨all,rfl,hl,g2⟩
   ·rw[if_neg hl] at g2;exact g2.elim
 apply zQ;clear zQ
 have hlt:∀b∈fp,b < s2.heap.objs.size:=λ b hb=>by
  refine bc λ zQ=>?_
  obtain⟨o,e,_⟩:=T.obj 0 _ st2 b hb
  apply zQ;clear zQ
  exact Heap.lt_size e
 refine wpAny_newObj_type (ac6 ?_)
 generalize hC:(s2.heap.push {cls:= .type "list",dict:=none,data:= .seq ([]:List Value).toArray}).objs.size=C
 have hC':C=s2.heap.objs.size+1:=by rw[<-hC];exact Heap.size_push ..
 generalize e4:pushCells ((s2.heap.push {cls:= .type "list",dict:=none,data:= .seq ([]:List Value).toArray}).push {cls:= .type "dict",data:= .dict #[]}) scope.names=h4
 show codeAny (model X.prog X.w) X.A (.compStart (.ListComp elt [⟨tg,iter,ifs,0⟩] scope pos) 0 (.ref it) (.ref s2.heap.objs.size) (iz scope X.env C)) (compPost (model X.prog X.w) X.A X.xe use Qr (.ref s2.heap.objs.size) C) {s2 with heap:=h4}
 have hDn:H2 s2.heap.objs.size=none:=I2.hok.fresh (z0g _)
 have hOn:¬O s2.heap.objs.size:=j2.Dh hDn
 have hDk:X.K.lookup s2.heap.objs.size=none:=by
  cases q:X.K.lookup s2.heap.objs.size with
  |none=>rfl
  |some o=>exact absurd (Heap.lt_size (I2.kIn _ _ q)) (Nat.lt_irrefl _)
 have I4:=agX (ts:=ts) I2 B f2 hlt hC' e4.symm
 have sD:Same H2 (upd H2 s2.heap.objs.size (.lst [])):=Same.upd hDn
 have lρ0:ρ0.length=(ts++fD scope).length:=by rw[<-eρ,Af,List.length_append]
 generalize eD:s2.heap.objs.size=Dd at *
 have ai4:∀{H':Hp},Same H2 H'->gO X.K O H2 (λ a=>O a\/a=Dd) H':=λ sm=>⟨(Same.gY (K:=X.K) (O:=O) sm).ext,λ a z=>z.elim .inl λ e=> .inr (by rw[e];exact⟨hDn,hDk⟩),(Same.gY (K:=X.K) (O:=O) sm).dom⟩
 have alO:∀{H':Hp} {ys:List V},Same H2 H'->H' Dd=some (.lst ys)->∀a,(O a\/a=Dd)->∃o,H' a=some o:=λ sm e a z=>z.elim (λ q=>let ⟨o,h⟩:=j2.al a q;⟨o,sm _ _ h⟩) λ q=>by rw[q];exact⟨_,e⟩
 have j4:In (dB X scope ts C s2 H2 fp) (λ a=>O a\/a=Dd) (upd H2 Dd (.lst [])) ρ0 (pull X.N (fD scope) ts.length σ):=by
  rw[<-eρ]
  exact In.go (aiP B j2.vals) PX (ai4 sD) (alO sD upd_same)
 have hv0:∀(i:Nat) e,ρ0[i]?=some (some e)->e.ZQ=true:=by rw[<-eρ];exact PX
 have hn0:∀i,i < ts.length->ρ0[i]?=some none:=by rw[<-eρ];exact λ i h=>ac9 h
 have am1:∀b o,s2.heap.get? b=some o->h4.get? b=some o:=λ b o e=>by
  rw[<-e4];exact pushCells_keeps _ _ b o (Heap.get?_push_of_some _ (Heap.get?_push_of_some _ e))
 have st4:tn 0 h4:=T.keep _ _ _ st2 λ b Z o e=>am1 b o e
 have stat:∀{H':Hp},(∀b∈fp,H' b=none)->∀b∈fp,FpOk (dB X scope ts C s2 H2 fp) [] H' b:=λ {H'} hn b hb=>by
  have hl: @LT.lt Nat _ b Dd:=hlt b hb
  refine bc λ zQ=>?_
  obtain⟨_,a1,a2,a3,a4,_⟩:=f2 b hb
  apply zQ;clear zQ
  refine⟨hn b hb,by show @Ne Nat b C;exact ail hl hC',λ z=>?_,.inl hb,λ x c h=>?_,λ p hp=>absurd (show p∈([]:List (Addr×Obj)) from hp) (by simp)⟩
  ·rcases List.mem_cons.mp (I2.stkSub b z) with z |z
   ·exact a1 z
   ·exact a2 z
  ·rcases mH B I2.ok.has h with⟨_,q⟩ |⟨_,q⟩
   ·show @Ne Nat c b;exact ain q hl hC'
   ·exact a4 x c q
 have fr4:∀b∈fp,(upd H2 Dd (.lst [])) b=none:=λ b hb=>by
  have hl: @LT.lt Nat _ b Dd:=hlt b hb
  rw[upd_ne (show @Ne Nat b Dd by exact Nat.ne_of_lt hl)];exact (f2 b hb).1
 have loop : ∀ s0:Shared,s0={s2 with heap:=h4}->codeAny (model X.prog X.w) X.A (.compLoop (.ListComp elt [⟨tg,iter,ifs,0⟩] scope pos) 0 (.ref it) (.ref Dd) (iz scope X.env C)) (compPost (model X.prog X.w) X.A X.xe use Qr (.ref Dd) C) s0:=by
  intro s0 e0
  refine codeAny_loop rfl (λ n s'=>aft (dB X scope ts C s2 H2 fp) X.K (λ a=>O a\/a=Dd) H2 Dd fp tn ρ0 xs (qz gt ft fe ρ0) all n s') (λ n s' hI=>?_) (xs.length+1)
   ⟨0,_,_,[],[],all,rfl,Nat.zero_le _,e0▸I4,e0▸st4,fr4,j4,sD,upd_same,.nil,by simpa using hall,rfl⟩
  refine bc λ zQ=>?_
  obtain⟨i,σ',H',ys,ds,rest,rfl,hil,I',st',fr',j',sm',hD',rp',hm',hr'⟩:=hI
  apply zQ;clear zQ
  show wpAny (model X.prog X.w) X.A ((compTurn (.ListComp elt [⟨tg,iter,ifs,0⟩] scope pos) 0 (.ref it) (.ref Dd) (iz scope X.env C)).onRaise (λ x=>do noteFrame x (iz scope X.env C);theTreesLotGoes x)) _ _ s'
  refine wpAny_noted ?_
  rw[compTurn_list]
  have yat:=yr _ H' (ai4 sm') i
  refine wpAny_bind (wpAny_standAt (wpAny_bind ?_))
  by_cases hlt':i < xs.length
  ·-- a turn
   have ex:xs[i]?=some xs[i]:=by simp[hlt']
   have ed:xs.drop i=xs[i]::xs.drop (i+1):=List.drop_eq_getElem_cons hlt'
   rw[ed] at hm'
   refine bc λ zQ=>?_
   obtain⟨o,rest',k1,k2,k3⟩:=ac8 hm'
   obtain⟨jgo,jy⟩:=yat.1 _ ex
   apply zQ;clear zQ
   refine wpAny_mono (T.item (dB X scope ts C s2 H2 fp) rfl rfl rfl hc i [] s' σ' H' (λ Z Z=>False) I' (stat fr') st' jgo) (λ r s4 ⟨u,hr,h4'⟩=>?_) λ Z Z z=>z.elim
   subst hr
   refine wpAny_bind (wpAny_mono h4' (λ _ s5 ⟨x,H5,I5,r5,y5,st5,fr5⟩=>?_) λ Z Z z=>z.elim)
   refine bc λ zQ=>?_
   obtain⟨Ui,aom⟩:=jy x H5 y5
   apply zQ;clear zQ
   have I5':=I5.pinned (stat fr5) (T.obj _ _ st5)
   have k1:(gt xs[i] ρ0).bind (λ ρ1=>(ft ρ1).bind λ b=>if b=true then (fe ρ1).bind λ d=> .ok (some d) else .ok none)= .ok o:=k1
   refine bc λ zQ=>?_
   cases q1:gt xs[i] ρ0 with
   |bad=>rw[q1] at k1;injection k1
   |err c=>rw[q1] at k1;injection k1
   | ok ρ1 =>
    apply zQ;clear zQ
    rw[q1] at k1
    have k1:(ft ρ1).bind (λ b=>if b=true then (fe ρ1).bind λ d=> .ok (some d) else .ok none)= .ok o:=k1
    refine wpAny_bind (wpAny_mono (hg C s2 H2 fp B.nd _ s5 σ' H5 x u (λ σ6 H6=>H6=H5/\In (dB X scope ts C s2 H2 fp) (λ a=>O a\/a=Dd) H5 ρ1 σ6) I5' r5 ⟨ρ0,_,xs[i],ρ1,j'.same Ui,aom,q1,λ σ6 j6=>⟨rfl,j6⟩⟩) (λ _ s6 ⟨σ6,H6,I6,eH,j6⟩=>?_) λ Z Z z=>(show False from z).elim)
    subst eH
    refine bc λ zQ=>?_
    cases q2:ft ρ1 with
    |bad=>rw[q2] at k1;injection k1
    |err c=>rw[q2] at k1;injection k1
    | ok bb =>
     apply zQ;clear zQ
     rw[q2] at k1
     have k1:(if bb=true then (fe ρ1).bind λ d=>R.ok (some d) else .ok none)= .ok o:=k1
     have gtest:tG (dB X scope ts C s2 H2 fp) rB ft σ6 H6 (λ b H7=>b=bb/\Same H6 H7):=⟨ρ1,_,j6,by rw[q2];exact λ b H7 s7 e7=>⟨e7.symm,s7⟩⟩
     refine wpAny_bind (wpAny_mono (ht C s2 H2 fp _ s6 σ6 H6 _ I6 gtest) (λ ok s7 ⟨H7,I7,ok7,J9⟩=>?_) λ Z Z z=>(show False from z).elim)
     subst ok7
     have back:∀{H8:Hp} {s8:Shared} {ys':List V} {ds':List D},Inv (dB X scope ts C s2 H2 fp) ([]++pinsAt fp s5.heap) σ6 H8 s8->Same H2 H8->In (dB X scope ts C s2 H2 fp) (λ a=>O a\/a=Dd) H8 ρ0 σ6->H8 Dd=some (.lst ys')->aZ X.K (λ a=>O a\/a=Dd) H8 ds' ys'->ds'++rest'=all->
       ∃m,m < xs.length+1 - i/\aft (dB X scope ts C s2 H2 fp) X.K (λ a=>O a\/a=Dd) H2 Dd fp tn ρ0 xs (qz gt ft fe ρ0) all m s8:=by
      intro H8 s8 ys' ds' I8 sm8 j8 hD8 rp8 hr8
      refine⟨xs.length+1 - (i+1),by exact aki hil,i+1,σ6,H8,ys',ds',rest',rfl,by exact akh hlt',I8.unpinned,T.keep _ _ _ st5 λ b hb o e=>(I8.pin (b,o) (List.mem_append_right _ (List.mem_append_right _ (mem_pinsAt hb e)))).1,λ b hb=>?_,j8,sm8,hD8,rp8,k2,hr8⟩
      refine bc λ zQ=>?_
      obtain⟨o,e,d⟩:=T.obj _ _ st5 b hb
      apply zQ;clear zQ
      exact (I8.pin (b,o) (List.mem_append_right _ (List.mem_append_right _ (mem_pinsAt hb e)))).2.1
     have j60:In (dB X scope ts C s2 H2 fp) (λ a=>O a\/a=Dd) H6 ρ0 σ6:=In.back (n:=ts.length) j6 hn0 (λ k hk'=>hk _ _ _ q1 k hk') lρ0
     refine bc λ zQ=>?_
     cases ok with
     | false=>
      apply zQ;clear zQ
      have k1:R.ok none=R.ok o:=k1
      (injection k1 with aH;subst aH)
      refine wpAny_pure ⟨rfl,?_⟩
      refine back I7 (sm'.trans (Ui.trans J9)) (j60.same J9) (J9 _ _ (Ui _ _ hD')) (rp'.same (Ui.trans J9)) ?_
      rw[<-hr',k3];rfl
     | true =>
      apply zQ;clear zQ
      have k1:(fe ρ1).bind (λ d=>R.ok (some d))= .ok o:=k1
      refine bc λ zQ=>?_
      cases q3:fe ρ1 with
      |bad=>rw[q3] at k1;injection k1
      |err c=>rw[q3] at k1;injection k1
      | ok d =>
       apply zQ;clear zQ
       rw[q3] at k1
       have k1:R.ok (some d)=R.ok o:=k1
       (injection k1 with aH;subst aH)
       have aon:tG (dB X scope ts C s2 H2 fp) (rD (dB X scope ts C s2 H2 fp)) fe σ6 H7 (λ v H8=>Same H7 H8/\Rep X.K (λ a=>O a\/a=Dd) H8 d v):=⟨ρ1,_,j6.same J9,by rw[q3];exact λ v H8 s8 r8=>⟨s8,r8⟩⟩
       refine wpAny_bind (wpAny_bind (wpAny_mono (he C s2 H2 fp _ s7 σ6 H7 _ I7 aon) (λ xv s8 ⟨v8,H8,I8,r8,sm8,aoo⟩=>?_) λ Z Z z=>(show False from z).elim))
       have hD8:H8 Dd=some (.lst ys):=sm8 _ _ (J9 _ _ (Ui _ _ hD'))
       have rp8:aZ X.K (λ a=>O a\/a=Dd) H8 ds ys:=rp'.same (Ui.trans (J9.trans sm8))
       have hds:ds++d::rest'=all:=by rw[<-hr',k3];rfl
       have hyl:ys.length < sizeLine:=by
        have:=jO
        have e1:=rp8.length
        have e2:=congrArg List.length hds
        rw[List.length_append,List.length_cons] at e2
        exact akj this e2 e1 hlen
       refine wpAny_bind (wpAny_mono (mt_append (X:=dB X scope ts C s2 H2 fp) _ s8 σ6 H8 (.ref Dd) [v8] (.ref Dd) [xv] (λ Z H9=>H9=upd H8 Dd (.lst (ys++[v8]))) I8 rfl (.cons r8 .nil) ⟨_,ys,v8,rfl,rfl,hD8,hyl,rfl⟩) (λ _ s9 ⟨_,H9,I9,_,eH9⟩=>?_) λ Z Z z=>(show False from z).elim)
       subst eH9
       have aop:Same H2 H8:=sm'.trans (Ui.trans (J9.trans sm8))
       have ai5:gO X.K (λ a=>O a\/a=Dd) H8 (λ a=>O a\/a=Dd) (upd H8 Dd (.lst (ys++[v8]))):=by
        refine⟨⟨λ b zs h=>?_,λ b zs n h=>?_⟩,λ a z=> .inl z,λ a z=>?_⟩
        ·have nb:b≠Dd:=λ e=>by
          rw[e] at h
          rcases h with h |⟨o,h⟩ <;> rw[hD8] at h <;> (injection h with aH;injection aH)
         refine bc λ zQ=>?_
         rcases h with h |⟨o,h⟩
         ·apply zQ;clear zQ
          exact .inl (by rw[upd_ne nb];exact h)
         ·apply zQ;clear zQ
          exact .inr ⟨o,by rw[upd_ne nb];exact h⟩
        ·have nb:b≠Dd:=λ e=>n (.inr e)
         refine bc λ zQ=>?_
         rcases h with h |⟨o,h⟩
         ·apply zQ;clear zQ
          exact .inl (by rw[upd_ne nb];exact h)
         ·apply zQ;clear zQ
          exact .inr ⟨o,by rw[upd_ne nb];exact h⟩
        ·by_cases ea:a=Dd
         ·rw[ea,upd_same] at z;injection z
         ·rw[upd_ne ea] at z;exact z
       have sm9:Same H2 (upd H8 Dd (.lst (ys++[v8]))):=λ b o e=>by
        rw[upd_ne (ne_of_none e hDn)];exact aop _ _ e
       refine wpAny_pure (wpAny_pure ⟨rfl,?_⟩)
       refine back I9 sm9 (In.go (j60.same (J9.trans sm8)) hv0 ai5 (alO sm9 upd_same)) upd_same ((rp8.append (.cons aoo .nil)).go ai5) ?_
       rw[List.append_assoc];exact hds
  ·-- the end
   have ei:i=xs.length:=by exact ae5 hil hlt'
   subst ei
   have hrest:rest=[]:=by
    have hm':mq (qz gt ft fe ρ0) (xs.drop xs.length)= .ok rest:=hm'
    rw[List.drop_length] at hm'
    (injection hm' with aH;subst aH);rfl
   subst hrest
   rw[List.append_nil] at hr'
   subst hr'
   refine wpAny_mono (T.done (dB X scope ts C s2 H2 fp) rfl rfl rfl hc _ [] s' σ' H' (λ Z Z=>False) I' (stat fr') st' (yat.2 (z0g _))) (λ r s5 ⟨hr,I5⟩=>?_) λ Z Z z=>z.elim
   subst hr
   refine wpAny_pure ?_
   refine bc λ zQ=>?_
   obtain⟨m,hns,_⟩:=I5.loc
   apply zQ;clear zQ
   have hCn:H' C=none:=I5.free
   have I6:Inv X pins σ H' s5:=by
    refine I2.call' (s':=s5) (ch:=fp) I5.os ⟨λ b o e n hb hx=>I5.base.keep b o e n hb hx,λ b o e n hb hx=>I5.base.slot b o e n hb hx,I5.base.free,λ b o e hx=>I5.base.there b o e hx,I5.base.tups,I5.base.frzs,I5.base.tbls⟩ (λ b u e=>I5.hok b u e) I5.bare λ b hb=>⟨(f2 b hb).2.2.2.1,(f2 b hb).2.1,(f2 b hb).2.2.2.2.1,(f2 b hb).2.2.2.2.2⟩
   exact hQ (.ref Dd) H' s5 C m _ (.ref Dd) (g3 _ _ sm' (uG (SqL.of hD') hOn (rp'.fewer λ a z=> .inl z))) I6 hns (I2.fpOk (show @LE.le Nat _ _ C by exact akk eD hC') hCn) rfl
 exact codeAny_compStart_list (loop _ rfl) (T.self _ 0 _ _ _ st4 (loop _ rfl))
theorem cD {tg iter elt:Expr} {ifs:List Expr} {scope:Scope} {pos:Pos} {fi:aq->R (List D)} {gt:D->aq->R aq} {ft:aq->R Bool} {fe:aq->R D} (ts:List Str) (caps:List Nat)
  (hc:X.calm=true) (hb:Tt X.env.scope scope ts X.N=true) (hcap:(fD scope).map (λ x=>pL x X.N)=caps)
  (hi:DI X tg iter fi) (hk:zm ts.length gt) (hg:∀C s H ex,(dB X scope ts C s H ex).N.Nodup->DG (dB X scope ts C s H ex) tg gt) (ht:∀C s H ex,DTs (dB X scope ts C s H ex) ifs ft) (he:∀C s H ex,DE (dB X scope ts C s H ex) elt fe)
  (hs:autoParam (∀x,foldedSetIterable iter X.env x=pure x) ZL._auto_1):
  DE X (.ListComp elt [⟨tg,iter,ifs,0⟩] scope pos) (cj ts.length caps fi gt ft fe):=by
 intro pins s σ H Q I h
 obtain⟨ρ,O,j,h⟩:=h
 rw[eval_ListComp]
 exact Uh ts caps hc hb hcap hi hk hg ht he hs (use:=none) (Qr:=EP X pins σ Q) I j (λ v H' s5 C m f acc hv I6 hns fp rv=>⟨m,hns,λ h' sb=>⟨v,H',I6.fp fp sb,rv,hv⟩⟩) h
theorem ahf (i:Nat) {x:Str} {pos' cpos pos:Pos} {tg iter elt:Expr} {ifs:List Expr} {scope:Scope} {fi:aq->R (List D)} {gt:D->aq->R aq} {ft:aq->R Bool} {fe:aq->R D} (hN:X.N.Nodup) (ts:List Str) (caps:List Nat)
  (hc:X.calm=true) (hb:Tt X.env.scope scope ts X.N=true) (hcap:(fD scope).map (λ x=>pL x X.N)=caps)
  (hi:DI X tg iter fi) (hk:zm ts.length gt) (hg:∀C s H ex,(dB X scope ts C s H ex).N.Nodup->DG (dB X scope ts C s H ex) tg gt) (ht:∀C s H ex,DTs (dB X scope ts C s H ex) ifs ft) (he:∀C s H ex,DE (dB X scope ts C s H ex) elt fe)
  (hix:X.N[i]?=some x:=by rfl) (hx:Loc X.env.scope x:=by first |exact Or.inl rfl |exact Or.inr rfl) (hf:X.fn x=true\/X.env.scope.names.lookup x=some .local:=by first |exact .inl rfl |exact .inr rfl)
  (hsw:swapsWith (.ListComp elt [⟨tg,iter,ifs,0⟩] scope cpos) (some (.Name x pos')) pos.line X.env=pure true:=by rfl)
  (hs:∀x,foldedSetIterable iter X.env x=pure x:=by intro Z;rfl):
  DS X (.Assign [.Name x pos'] (.ListComp elt [⟨tg,iter,ifs,0⟩] scope cpos) pos) (bV (cj ts.length caps fi gt ft fe) (aV i)):=by
 intro pins s σ H E I h
 obtain⟨H0,O0,O,ρ,j,h⟩:=h
 rw[exec_Assign_Name_used _ _ _ _ hsw]
 refine wpAny_bind (wpAny_standAt (wpAny_bind ?_))
 show wpAny _ _ (comprehension (.ListComp elt [⟨tg,iter,ifs,0⟩] scope cpos) scope X.env _ (newList []) false (eval iter X.env) (some (assign (.Name x pos') X.env)) >>=λ Z=>pure ()) _ _ _
 unfold bV nP at h
 refine wpAny_bind (Uh (Q:=λ v H'=>∃d,cj ts.length caps fi gt ft fe ρ= .ok d/\Same H H'/\Rep X.K O H' d v) (Qr:=λ Z s'=>wpAny (model X.prog X.w) X.A (pure ()) (λ Z s1=>wpAny (model X.prog X.w) X.A (pure Flow.next) (SP X pins E) X.xe s1) X.xe s') ts caps hc hb hcap hi hk hg ht he hs I j.inn ?_ ?_)
 ·intro v H' s5 C m f acc hq I5 hns fC rel
  obtain⟨d,ed,sm,rd⟩:=hq
  rw[ed] at h
  have h:sI X H0 O0 O H E (.nx (ρ.set i (some (.val d)))):=h
  obtain⟨o,es,ep,ho,hd,hr⟩:=hns
  have Ip:=I5.pinned (fp:=[C]) (λ b hb=>by rw[List.mem_singleton.mp hb];exact fC) (λ b hb=>by rw[List.mem_singleton.mp hb];exact⟨o,ho,λ v z=>by rw[hd] at z;injection z⟩)
  show wpAny (model X.prog X.w) X.A (assign (.Name x pos') X.env acc) _ X.xe s5
  refine wpAny_mono (pg_name hN hix hx hf _ s5 σ H' v acc (λ σ' H''=>σ'=σ.set i (some v)/\H''=H') Ip rel ⟨rfl,rfl⟩) (λ _ s6 ⟨σ',H'',I',e1,e2⟩=>?_) λ Z Z z=>z
  subst e1 e2
  have pn:=(I'.pin (C,o) (List.mem_append_right _ (List.mem_append_right _ (mem_pinsAt (List.mem_singleton.mpr rfl) ho)))).1
  refine⟨m,⟨o,es,ep,pn,hd,hr⟩,λ h' sb=>wpAny_pure (wpAny_pure ⟨_,H'',(I'.unpinned).fp fC sb,h _ H'' O ((j.grow sm).set (List.getElem?_eq_some_iff.mp hix).1 rd) (Same.gY sm)⟩)⟩
 ·cases e1:cj ts.length caps fi gt ft fe ρ with
  |bad=>rw[e1] at h;exact h
  |err c=>rw[e1] at h;exact h σ H O j
  |ok d=>exact λ v H' sm r=>⟨d,rfl,sm,r⟩
end
end Pu
namespace Pu
open PySem PySem.Spec L2
open PyProof.Rows hiding St
section
variable {ρ ρ1:aq} {fa:aq->R (List D)} {F:List D->R D} {ds:List D} {n:Nat} {d:D} {c:Str} {f:aq->R D} {gt:D->aq->R aq} {p:aq->R Bool} {s t:aq->So} {o:So}
end
end Pu
namespace Pu
open PySem PySem.Spec L2
open PyProof.Rows hiding St
section
variable {M:Model} {A:Around} {E:Value->Shared->Prop} {s:Shared}
end
section
variable {P:Program} {w:World} {fs fs':List Addr} {H H' H0:Hp} {s s' s0:Shared} {a C:Addr} {T:Option Addr} {h':Heap} {t':Addr}
end
end Pu
namespace Pu
open PySem PySem.Spec L2
open PyProof.Rows hiding St
section
variable {P:Program} {w:World} {K:PySem.W.Frag} {mg:Str->Option Value} {base:Heap}
end
section
variable {X:Cx} {k n m:Nat} {F:List D->R D} {x:Str} {p pos:Pos} {e:Expr} {es:List Expr} {fa:aq->R (List D)}
end
end Pu
namespace Pu
open PySem PySem.Spec L2
open PyProof.Rows hiding St
section
variable {X:Cx} {c:Str} {C:Addr} {np cpos pos:Pos} {e:Expr} {fa:aq->R (List D)}
end
section
variable {X:Cx} {pins:List (Addr×Obj)} {σ:St} {H:Hp} {s:Shared}
end
section
variable {X:Cx} {pins:List (Addr×Obj)} {σ:St} {H:Hp} {s:Shared} {E:Value->Shared->Prop}
end
section
variable {X:Cx} {t n:Str} {CT:Addr} {np hpos pos:Pos} {body suite:List Stmt} {b₀:Stmt} {g h:aq->So} {sub:Str->Str->Bool}
end
section
variable {prog:Program} {w:World} {A:Around} {E:Value->Shared->Prop} {s:Shared} {K:PySem.W.Frag} {x C:Addr} {ox:Obj} {od:Option Obj}
end
section
variable {X:Cx} {sub:Str->Str->Bool}
end
end Pu
namespace Pu
open PySem PySem.Spec L2
open PyProof.Rows hiding St
section
variable {X:Cx} {tg a:Expr} {p pos:Pos} {fa:aq->R (List D)}
end
section
variable {X:Cx}
end
end Pu
namespace Pu
open PySem PySem.Spec L2
open PyProof.Rows hiding St
noncomputable def Tb (ts:List (Addr×Str)) (H:Hp):Prop:=∀p∈ts,∃(ps:Array Value) (tq:Tok),H p.1=some (.tbl ps)/\ps[0]?=some (.str p.2 tq)
theorem Tb.un {ts:List (Addr×Str)} {fs ex:List Addr} {H H':Hp} {h h':Heap} (t:Tb ts H) (u:Un fs ex H H' h h'):Tb ts H':=λ p hp=>by
 obtain⟨ps,tq,e,q⟩:=t p hp
 obtain⟨more,e'⟩:=u.tbls _ _ e
 refine⟨_,tq,e',?_⟩
 obtain⟨hl,_⟩:=Array.getElem?_eq_some_iff.mp q
 rw[Array.getElem?_append_left hl];exact q
theorem Tb.same {ts:List (Addr×Str)} {H H':Hp} (t:Tb ts H) (s:Same H H'):Tb ts H':=λ p hp=>let ⟨ps,tq,e,q⟩:=t p hp;⟨ps,tq,s _ _ e,q⟩
theorem Ka {α β:Type} {F:α->β->Prop}:∀{es:List α} {vs:List β} {i:Nat} {e:α},Paired F es vs->es[i]?=some e->∃v,vs[i]?=some v/\F e v
 |_,_,_,_,.nil,h=>by simp at h
 |_,_,0,_,.cons r _,h=>by simp at h;subst h;exact⟨_,rfl,r⟩
 | _,_,i+1,e,.cons _ t,h=>by
  obtain⟨v,h1,h2⟩:=Ka (i:=i) (e:=e) t (by simpa using h)
  exact⟨v,by simpa using h1,h2⟩
theorem aaZ {α β:Type} {F:α->β->Prop}:∀{es:List α} {vs:List β},Paired F es vs->es.length=vs.length
 :=by
 intro es vs h
 induction h with
 |nil=>rfl
 |cons r t ih=>rw[List.length_cons,List.length_cons,ih]
theorem Kc {α β:Type} {F:α->β->Prop}:∀{es fs:List α} {vs ws:List β},Paired F es vs->Paired F fs ws->Paired F (es++fs) (vs++ws)
 :=by
 intro es fs vs ws h q
 induction h with
 |nil=>exact q
 |cons r t ih=>exact .cons r ih
noncomputable abbrev ai6 (K:PySem.W.Frag) (O:Addr->Prop) (H:Hp):Ent->V->Prop:=λ e v=>sY K O H e v/\e.own=false
theorem wY {K:PySem.W.Frag} {O:Addr->Prop} {H:Hp}:∀{ds:List D} {vs:List V},aZ K O H ds vs->Paired (ai6 K O H) (ds.map .val) vs
 |[],vs,r=>by rw[r.nil_inv];exact .nil
 | d::ds,vs,r=>by
  obtain⟨x,t,rfl,h1,h2⟩:=r.cons_inv
  exact .cons ⟨h1,rfl⟩ (wY h2)
theorem Jg {X:Cx} {O:Addr->Prop} {H:Hp} {es:List Ent} {vs:List V} {m:Nat} (hl:X.N.length=es.length+m) (r:Paired (ai6 X.K O H) es vs) (al:∀a,O a->∃o,H a=some o):
  At X H O O H (es.map some++List.replicate m none) (vs.map some++List.replicate m none):=by
 have hlen:=aaZ r
 have get:∀(i:Nat) e,(es.map some++List.replicate m none)[i]?=some (some e)->∃v,(vs.map some++List.replicate m none)[i]?=some (some v)/\sY X.K O H e v/\e.own=false:=λ i e q=>by
  by_cases hi:i < es.length
  ·rw[List.getElem?_append_left (by simpa using hi),List.getElem?_map] at q
   cases z:es[i]? with
   |none=>rw[z] at q;injection q
   | some e'=>
    rw[z] at q;cases q
    obtain⟨v,h1,h2,h3⟩:=Ka r z
    exact⟨v,by rw[List.getElem?_append_left (by rw[List.length_map,<-hlen];exact hi),List.getElem?_map,h1];rfl,h2,h3⟩
  ·rw[List.getElem?_append_right (by simpa using hi),List.getElem?_replicate] at q
   split at q <;> (first |(injection q with aH;injection aH) |injection q)
 refine⟨Same.refl _,.refl,λ Z z=>z,⟨⟨λ i e q=>?_,λ i k e e' v Z hi Z oi=>?_⟩,al,?_,?_⟩,λ i e a q ho=>?_⟩
 ·obtain⟨v,h1,h2,_⟩:=get i e q
  exact⟨v,h1,h2⟩
 ·obtain⟨_,_,_,h3⟩:=get i e hi
  rw[h3] at oi;injection oi
 ·rw[List.length_append,List.length_map,List.length_replicate,<-hlen];exact hl.symm
 ·rw[List.length_append,List.length_map,List.length_replicate];exact hl.symm
 ·obtain⟨_,_,_,h3⟩:=get i e q
  rw[h3] at ho;injection ho
theorem Jh {N:List Str} {vs:List V} {m:Nat} (h:N.length=vs.length+m):L2.start N vs=vs.map some++List.replicate m none:=by
 unfold L2.start
 rw[show N.length - vs.length=m by exact akl h]
noncomputable def spT (ts:List (Addr×Str)) (K:PySem.W.Frag) (n:Nat) (F:List D->R D):Sp:=λ vs H Q E=>Tb ts H/\TF K n F vs H Q E
section
variable {P:Program} {w:World} {K:PySem.W.Frag} {mg:Str->Option Value} {base:Heap}
noncomputable def lq (m:Nat) (g:aq->So) (es:List Ent):R D:=match g (es.map some++List.replicate m none) with
 | .rt d=> .ok d
 | .nx _=> .ok .non
 |_=> .bad
theorem aad {X:Cx} {H:Hp} {O:Addr->Prop} {m:Nat} {g:aq->So} {es:List Ent} {Q:VK} (h:match lq m g es with | .ok d=>∀v H',Same H H'->Rep X.K O H' d v->Q v H' |_=>False):
  sI X H O O H {nx:=λ Z H'=>Q .non H',rt:=Q} (g (es.map some++List.replicate m none)):=by
 unfold lq at h
 cases e2:g (es.map some++List.replicate m none) with
 |rt d=>rw[e2] at h;exact λ v H' s' r'=>h v H' s' r'
 |nx ρ'=>rw[e2] at h;exact λ σ' H' O' j' Z=>h .non H' j'.same uF
 |bk _=>rw[e2] at h;exact h.elim
 |ct _=>rw[e2] at h;exact h.elim
 |ex _ _=>rw[e2] at h;exact h.elim
 |bad=>rw[e2] at h;exact h.elim
theorem fnT {x qual:Str} {st:Stmt} {f:Addr} {fd:FuncData} {N ps:List Str} {k n m:Nat} {g:aq->So} {ts:List (Addr×Str)} (Fn:Fun K x qual st f fd) (S:FnScope N ps (defScope st)) (hn:ps.length=n) (hm:N.length=n+m)
  (hb:∀(cdv:Value) (A:Around) (outer:List PySem.Env) (s:Shared) (H:Hp) (E:XK),fd.code=cdv->Room k (A.deeper (envOfC qual (defScope st) s.heap.objs.size f cdv))->Tb ts H->cW (cxOf CX0 P w K mg base N qual (defScope st) f cdv A outer s H E).nox (defBody st) g):
  FnOk P w K mg base CX0 (k+1) f fd ps (spT ts K n (λ ds=>lq m g (ds.map .val))):=by
 obtain⟨oc,od,kV,doc,pm,an,cdv,ct,osl,rfl,lk,hcd⟩:=Fn.ex
 refine fn_of lk hcd S (λ vs H Q E h=>?_) λ A outer s H vs Q E hr h=>?_
 ·obtain⟨_,O,ds,r,hl,_⟩:=h
  rw[hn,<-hl,r.length]
 ·obtain⟨hT,O,ds,r,hl,al,h⟩:=h
  have HN:N.length=vs.length+m:=by rw[hm,<-hl,r.length]
  refine⟨_,(hb cdv A outer s H E rfl hr hT).nox,H,O,O,(ds.map Ent.val).map some++List.replicate m none,?_,aad h⟩
  rw[Jh HN]
  exact Jg (X:=(cxOf CX0 P w K mg base N qual (defScope st) f cdv A outer s H E).nox) (by rw[List.length_map,r.length];exact HN) (wY r) al
end
noncomputable def nR (P:Program) (w:World) (K:PySem.W.Frag) (mg:Str->Option Value) (base:Heap) (k:Nat) (x:Str) (n:Nat) (F:List D->R D) (fd:FuncData) (ps:List Str) (ts:List (Addr×Str)):Prop:=
 ∃f,FnOk P w K mg base CX0 k f fd ps (spT ts K n F)/\mg x=some (.ref f)/\PySem.W.keepIn K (.ref f)=true
section
variable {X:Cx} {k m n:Nat} {fd:FuncData} {ps ks:List Str} {F:List D->R D} {x:Str} {p pos:Pos} {e:Expr} {es:List Expr} {kws:List Keyword} {fa fk:aq->R (List D)} {ts:List (Addr×Str)}
theorem Uj (G:nR X.prog X.w X.K X.mg X.base k x n F fd ps ts) (hT:Tb ts X.H₀) (hr:Room m X.A) (hkm:k<=m) (hb:Binds X.K fd ps []) (ha:DA X (e::es) fa) (hg:autoParam (Gl X x) bB._auto_1)
  (hdb:autoParam ((x ==("__debug__" :Str))=false) dM._auto_1) (he:autoParam (starEach (e::es) X.env=(false,eval e X.env)::starEach es X.env) bB._auto_1) (hpl:autoParam ((backTo pos (starEach es X.env)).any (·.1)=false) bB._auto_1):
  DE X (.Call (.Name x p) (e::es) [] pos) (aF (bh F n) fa):=by
 obtain⟨f,ok,hm,hk⟩:=G
 intro pins s σ H Q I h
 refine pe_call (dvs:=[]) (ok.mono hkm) hr hg hm hk hb .nil pass0 ha hdb he hpl pins s σ H Q I ?_
 obtain⟨ρ,O,j,h⟩:=h
 refine go j h λ ds vs H1 e1 s1 r1 j1 h1=>?_
 unfold bh at h1
 by_cases hl:ds.length=n
 ·rw[if_pos hl] at h1
  rw[List.append_nil]
  refine⟨(hT.un I.base).same s1,O,ds,r1,hl,j1.al,?_⟩
  cases q:F ds with
  |ok d=>rw[q] at h1;exact h1
  |err c=>rw[q] at h1;exact h1
  |bad=>rw[q] at h1;exact h1
 ·rw[if_neg hl] at h1;exact h1.elim
theorem ahg {sa sb sc} (S:Sel sa sb sc) (G:nR X.prog X.w X.K X.mg X.base k x n F fd ps ts) (hT:Tb ts X.H₀) (hr:Room m X.A) (hkm:k<=m) (hb:KB X.K fd ps ks sa)
  (ha:DA X (e::es) fa) (hkw:DK X kws fk) (hg:autoParam (Gl X x) bB._auto_1) (hall:autoParam ((backToKw pos (keywordEach kws X.env)).all (·.1.isSome)=true) bB._auto_1) (hks:autoParam ((backToKw pos (keywordEach kws X.env)).filterMap (·.1)=ks) bB._auto_1)
  (hdb:autoParam ((x ==("__debug__" :Str))=false) dM._auto_1) (he:autoParam (starEach (e::es) X.env=(false,eval e X.env)::starEach es X.env) bB._auto_1)
  (hpl:((backTo pos (starEach (e::es) X.env)).any (·.1) || (backToKw pos (keywordEach kws X.env)).any (·.1.isNone))=false:=by rfl):
  DE X (.Call (.Name x p) (e::es) kws pos) (oY F n ks.length sc fa fk):=by
 obtain⟨f,ok,hm,hk⟩:=G
 have G:=ok.mono hkm
 intro pins s σ H Q I h
 refine wpAny_Call_Name_kw (ld_glob I hg hm ?_ hdb)
 obtain⟨ρ,O,j,h⟩:=h
 have key:tG X (ZR X) fa σ H λ vs H1=>tG X (ZR X) fk σ H1 λ zs H2=>zs.length=ks.length/\spT ts X.K n F (vs++pickK .non sb zs) H2 Q E0:=by
  refine go j h λ ds vs H1 e1 s1 r1 j1 h1=>?_
  refine go j1 h1 λ zd zs H2 e2 s2 r2 j2 h2=>?_
  by_cases hz:zd.length=ks.length
  ·rw[if_pos hz] at h2
   unfold bh at h2
   by_cases hl:(ds++pickK .non sc zd).length=n
   ·rw[if_pos hl] at h2
    refine⟨by rw[<-r2.length];exact hz,((hT.un I.base).same s1).same s2,O,_,(r1.same s2).append (S.reps r2),hl,j2.al,?_⟩
    cases q:F (ds++pickK .non sc zd) with
    |ok d=>rw[q] at h2;exact h2
    |err c=>rw[q] at h2;exact h2
    |bad=>rw[q] at h2;exact h2
   ·rw[if_neg hl] at h2;exact h2.elim
  ·rw[if_neg hz] at h2;exact h2.elim
 refine PySem.W.callWith_KW (h₀:=X.base) I.ok.mod.kin hk hall (thn (ha pos pins s σ H _ I key) λ us s1 ⟨vs,H1,I1,r,q⟩=>?_) hpl he
 refine thn (hkw pos pins s1 σ H1 _ I1 q) λ ws s2 ⟨zs,H2,I2,rz,q2⟩=>⟨I2.kIn,?_⟩
 rw[hks]
 obtain⟨hz,q2⟩:=q2
 have r2:=r.append (S.vals rz)
 have hl:(us++pickK .none sa ws).length=ps.length:=by rw[<-r2.length];exact G.len _ _ _ _ q2
 refine wpAny_call (codeAny_mono (G.run X.A X.stack s2 H2 ⟨us,ks.zip ws⟩ _ _ Q E0 hr I2.env0 (hb s2 us ws I2.kIn (by rw[List.length_append,Qa] at hl;exact hl) (by rw[<-rz.length];exact hz)) r2 q2) λ r s' hq=>?_)
 cases r with
 |error e=>exact pass0 pins σ H2 s2 e s' I2 hq
 | ok fl=>
  cases fl with
  |ret u=>exact I2.after hq
  |next=>exact False.elim hq
  |brk=>exact False.elim hq
  |cont=>exact False.elim hq
theorem M6 {sa sb sc} (S:Sel sa sb sc) (G:nR X.prog X.w X.K X.mg X.base k x n F fd ps ts) (hT:Tb ts X.H₀) (hr:Room m X.A) (hkm:k<=m) (hb:KB X.K fd ps [] sa)
  (ha:DA X (e::es) fa) (hg:Gl X x:=by rfl) (hdb:(x ==("__debug__" :Str))=false:=by decide) (he:starEach (e::es) X.env=(false,eval e X.env)::starEach es X.env:=by rfl) (hpl:(backTo pos (starEach es X.env)).any (·.1)=false:=by rfl):
  DE X (.Call (.Name x p) (e::es) [] pos) (oY F n 0 sc fa (λ Z=> .ok [])):=by
 obtain⟨f,ok,hm,hk⟩:=G
 intro pins s σ H Q I h
 refine pe_call (ds:=pickK .none sa []) (dvs:=pickK .non sb []) (ok.mono hkm) hr hg hm hk (λ s us i hl=>hb s us [] i (by rw[List.length_append,Qa] at hl;exact hl) rfl) (S.vals .nil) pass0 ha hdb he hpl pins s σ H Q I ?_
 obtain⟨ρ,O,j,h⟩:=h
 refine go j h λ ds vs H1 e1 s1 r1 j1 h1=>?_
 have h1:good X (rD X) O (bh F n (ds++pickK .non sc [])) σ H1 Q:=h1
 unfold bh at h1
 by_cases hl:(ds++pickK .non sc []).length=n
 ·rw[if_pos hl] at h1
  refine⟨(hT.un I.base).same s1,O,_,r1.append (S.reps .nil),hl,j1.al,?_⟩
  cases q:F (ds++pickK .non sc []) with
  |ok d=>rw[q] at h1;exact h1
  |err c=>rw[q] at h1;exact h1
  |bad=>rw[q] at h1;exact h1
 ·rw[if_neg hl] at h1;exact h1.elim
end
end Pu
namespace Pu
open PySem PySem.Spec L2
open PyProof.Rows hiding St
theorem X5 {a b:Int} {s t:Tok} {c:Value} (l:List Value) (h:TriplesOk l):TriplesOk (l++[.int a s,.int b t,c]):=by
 fun_induction TriplesOk l with
 |case1=>simp[TriplesOk]
 |case2 x1 x2 x3 x4 x5 rest ih=>simp only[List.cons_append,TriplesOk];exact ih h
 |case3=>exact h.elim
set_option tactic.hygienic true in
theorem adx {a b:Int} {s t:Tok} {c cv:Value} {pos:Pos} (l:List Value) (h:TriplesOk l) (e:codeAmong pos (l++[.int a s,.int b t,c])=some cv):codeAmong pos l=some cv\/cv=c:=by
 fun_induction TriplesOk l with
 | case1=>
  simp only[List.nil_append,codeAmong] at e
  split at e
  ·(injection e with aH;subst aH);exact .inr rfl
  ·injection e
 | case2 x1 x2 x3 x4 x5 rest ih=>
  simp only[List.cons_append,codeAmong] at e |-
  split at e
  ·rename_i z;rw[if_pos z];exact .inl e
  ·rename_i z;rw[if_neg z];exact ih h e
 |case3=>exact h.elim
inductive mQ (H:Hp) (a:Addr) (name qual:Str) (params:Arguments) (body:List Stmt) (scope:Scope) (clos:List (Str×Addr)):Prop
 |mk (fo:Obj) (doc pm:Value) (c':Addr) (ctv:Value) (oc:Obj) (vs:Array Value) (t:Tok) (h1:H a=some (.frz fo (.own a))) (h2:fo.data= .func (PySem.W.fnX name qual params body scope clos .none .none doc pm none (.ref c') ctv)) (h3:H c'=some (.frz oc (.own c'))) (h4:oc.data= .fields vs) (h5:vs[1]?=some (.str qual t)):mQ H a name qual params body scope clos
theorem mQ.fz {H H':Hp} {a:Addr} {name qual:Str} {params:Arguments} {body:List Stmt} {scope:Scope} {clos:List (Str×Addr)} (h:mQ H a name qual params body scope clos) (s:∀b o u,H b=some (.frz o u)->H' b=some (.frz o u)):mQ H' a name qual params body scope clos:=
 by
 obtain⟨fo,doc,pm,c',ctv,oc,vs,t,h1,h2,h3,h4,h5⟩:=h
 exact⟨fo,doc,pm,c',ctv,oc,vs,t,s _ _ _ h1,h2,s _ _ _ h3,h4,h5⟩
structure rZ (base:Heap) (mg:Str->Option Value) (c P:Addr):Prop where
 code:PySem.W.CodeHd base c P
 blt:∃bm ob,mg "__builtins__" =some (.ref bm)/\bm≠builtinsNs/\base.get? bm=some ob/\ob.cls= .type "module"/\ob.dict=some builtinsNs/\ob.data= .plain
section
variable {X:Cx} {pins:List (Addr×Obj)} {σ:St} {H:Hp} {s:Shared}
theorem ahh {M:Model} {A:Around} {E:Value->Shared->Prop} {name qual:Str} {params:Arguments} {body:List Stmt} {scope:Scope} {clos:List (Str×Addr)} {pos:Pos} {line:Nat} {c P:Addr} {ps:Array Value} {tq:Tok}
  (I:Inv X pins σ H s) (hB:rZ X.base X.mg c P) (hc:X.env.code= .ref c) (e0:H P=some (.tbl ps)) (q0:ps[0]?=some (.str qual tq)) (hcl:closureFor scope X.env=pure clos):
  wpAny M A (makeFunction name qual params (.stmts body) scope X.env [] [] [] pos line) (λ v s'=>∃a H1,v= .ref a/\Inv X pins σ H1 s'/\Same H H1/\mQ H1 a name qual params body scope clos) E s:=by
 refine bc λ zQ=>?_
 obtain⟨qs,hP,tr,al⟩:=I.hok P _ e0
 have hgs:s.heap.Ns mainGlobals X.mg:=I.mod.glob.keeps I.bk
 have C:PySem.W.CodeHd s.heap c P:=hB.code.keeps I.bk
 obtain⟨bm,ob,b1,b2,b3,b4,b5,b6⟩:=hB.blt
 apply zQ;clear zQ
 have hgP:mainGlobals≠P:=λ q=>by
  refine bc λ zQ=>?_
  obtain⟨o,es,ep,e,hd,_⟩:=hgs
  apply zQ;clear zQ
  rw[q,hP] at e;(injection e with aH;subst aH);injection hd
 have hbP:bm≠P:=λ q=>by
  have e:=I.bk _ _ b3
  rw[q,hP] at e;(injection e with aH;subst aH);injection b4
 have hbG:bm≠mainGlobals:=λ q=>by
  refine bc λ zQ=>?_
  obtain⟨o,es,ep,e,hd,_⟩:=I.mod.glob
  apply zQ;clear zQ
  rw[q,e] at b3;cases b3;rw[hd] at b6;injection b6
 have hbb:s.heap.BuiltinsAt X.mg P:=⟨bm,ob,b1,b2,hbG,hbP,I.bk _ _ b3,b4,b5,b6⟩
 refine bc λ zQ=>?_
 cases hf:codeAmong pos qs.toList with
 | some cv=>
  apply zQ;clear zQ
  refine bc λ zQ=>?_
  obtain⟨c',oc,vs,q,t,tq',rfl,h1,h2,h3,h4⟩:=al pos cv hf
  apply zQ;clear zQ
  rw[q0] at h4;(injection h4 with aH;injection aH with cV wV;subst cV;subst wV)
  refine PySem.W.makeFunction_hit (mg:=X.mg) hcl I.ok.glob hgs hc C hP tr hf hbb λ ctv doc h' tk hk hsz=>?_
  have I1:Inv X pins σ H {s with heap:=h',toks:=tk}:=I.kept (t':=tk) hk
  have hn:H h'.objs.size=none:=I1.hok.fresh (z0g _)
  refine⟨h'.objs.size,upd H h'.objs.size (.frz _ (.own h'.objs.size)),rfl,I1.laid (t':=tk) (λ b u z=>Heap.get?_push_of_some _ z) (z0g _) ⟨Heap.get?_push_size _ rfl,_,Heap.get?_push_size _ rfl⟩,Same.upd hn,?_⟩
  exact⟨_,doc,_,c',ctv,oc,vs,t,upd_same,rfl,by rw[upd_ne (ne_of_none h1 hn)];exact h1,h2,h3⟩
 | none =>
  apply zQ;clear zQ
  refine PySem.W.makeFunction_K (mg:=X.mg) hcl I.ok.glob hgs hc C hP tr hf hgP hbb λ c' ctv doc h' tk hx hge hlt hrec htb=>?_
  refine bc λ zQ=>?_
  obtain⟨c2,oc,vs,t,e2,hoc,hd,hv⟩:=hrec
  apply zQ;clear zQ
  (injection e2 with aH;subst aH)
  have hn:H c'=none:=I.hok.fresh hge
  have old:∀b u,H b=some u->upd H c' (.frz oc (.own c')) b=some u:=λ b u z=>by rw[upd_ne (ne_of_none z hn)];exact z
  have I1 : Inv X pins σ (upd H c' (.frz oc (.own c'))) {s with heap:=h',toks:=tk}:=by
   refine I.call' (ch:=[]) rfl ⟨λ b o q n Z Z=>hx b o (λ z=>by rw[z,e0] at n;injection n) q,λ b o q n Z Z=>⟨o.slots,hx b o (λ z=>by rw[z,e0] at n;injection n) q⟩,λ b o q n Z=>?_,λ b o q Z=>?_,λ b xs q=>old _ _ q,λ b o u q=>old _ _ q,λ b p q=>⟨#[],by rw[old _ _ q];simp⟩⟩ (λ b u q=>?_) I.bare (λ b z=>absurd z (by simp))
   ·rw[upd_ne (Nat.ne_of_lt (z0d (Heap.lt_size q) hge))];exact n
   ·by_cases hb:b=P
    ·rw[hb];exact⟨_,htb⟩
    ·exact⟨o,hx b o hb q⟩
   ·by_cases hb:b=c'
    ·subst hb
     rw[upd_same] at q;(injection q with aH;subst aH)
     exact⟨hoc,oc,hoc⟩
    ·rw [upd_ne hb] at q
     by_cases hp:b=P
     ·subst hp
      rw[e0] at q;(injection q with aH;subst aH)
      refine⟨_,htb,?_,λ p cv z=>?_⟩
      ·have:=X5 (a:=pos.line) (s:=0) (b:=pos.col) (t:=0) (c:=Value.ref c') qs.toList tr
       simpa[rawInt] using this
      ·have z':codeAmong p (qs.toList++[.int pos.line 0,.int pos.col 0,.ref c'])=some cv:=by simpa[rawInt] using z
       refine bc λ zQ=>?_
       rcases adx _ tr z' with z1 |z1
       ·apply zQ;clear zQ
        refine bc λ zQ=>?_
        obtain⟨c3,o3,v3,q3,t3,tq3,y1,y2,y3⟩:=al p cv z1
        apply zQ;clear zQ
        exact⟨c3,o3,v3,q3,t3,tq3,y1,old _ _ y2,y3⟩
       ·apply zQ;clear zQ
        exact⟨c',oc,vs,qual,t,tq,z1,upd_same,hd,hv,q0⟩
     ·exact (I.hok b u q).stay (λ d v hd z=>hx d v (λ y=>hd.elim (λ x=>hp (x.symm.trans y)) λ x=>by rw[y,e0] at x;(injection x with aH;injection aH)) z) (λ d z=>old _ _ z) (λ d xs z=>old _ _ z) λ d o u Z z=>old _ _ z
  have hn2:upd H c' (.frz oc (.own c')) h'.objs.size=none:=I1.hok.fresh (z0g _)
  refine⟨h'.objs.size,upd (upd H c' (.frz oc (.own c'))) h'.objs.size (.frz _ (.own h'.objs.size)),rfl,I1.laid (t':=tk) (λ b u z=>Heap.get?_push_of_some _ z) (z0g _) ⟨Heap.get?_push_size _ rfl,_,Heap.get?_push_size _ rfl⟩,(Same.upd hn).trans (Same.upd hn2),?_⟩
  exact⟨_,doc,_,c',ctv,oc,vs,t,upd_same,rfl,by rw[upd_ne (Nat.ne_of_lt hlt),upd_same],hd,hv⟩
noncomputable def aoq (i:Nat) (name qual:Str) (params:Arguments) (body:List Stmt) (scope:Scope) (clos:List (Str×Addr)):TS:=λ D σ H=>∀a H1,Same H H1->mQ H1 a name qual params body scope clos->D.nx (σ.set i (some (.ref a))) H1
theorem ai7 (i:Nat) {name qual:Str} {params:Arguments} {body:List Stmt} {scope:Scope} {clos:List (Str×Addr)} {pos:Pos} {c P:Addr} (hN:X.N.Nodup) (hB:rZ X.base X.mg c P) (hT:Tb [(P,qual)] X.H₀) (hc:X.env.code= .ref c) (hcl:closureFor scope X.env=pure clos)
  (hi:autoParam (X.N[i]?=some name) bB._auto_1) (hl:autoParam (Loc X.env.scope name) ug._auto_1) (hq:autoParam (qualnameIn X.env name name=qual) bB._auto_1) (hd0:autoParam (params.defaults=[]) bB._auto_1) (hk0:autoParam (params.kw_defaults=[]) bB._auto_1) (ha:autoParam (annTrees params none X.env=[]) bB._auto_1)
  (hf:autoParam (X.fn name=true\/X.env.scope.names.lookup name=some .local) uh._auto_1):PS X (.FunctionDef name params body [] none [] scope none name pos) (aoq i name qual params body scope clos):=by
 intro pins s σ H D I h
 obtain⟨ps,tq,e0,q0⟩:=(hT.un I.base) (P,qual) (by simp)
 refine PySem.W.nestDef_K hd0 hk0 ha ?_
 rw[hq]
 refine wpAny_mono (ahh I hB hc e0 q0 hcl) (λ v s1 ⟨a,H1,ev,I1,sm,fh⟩=>?_) λ Z Z z=>z
 subst ev
 exact store_ok I1 hN hi hl (v:= .ref a) rfl (λ s2 I2=>⟨_,H1,I2,h a H1 sm fh⟩) hf
end
noncomputable def Dw (P:Program) (w:World) (K:PySem.W.Frag) (mg:Str->Option Value) (base:Heap) (k:Nat) (G:List D->R D) (n:Nat) (a:Addr) (H:Hp):Prop:=
 ∀ (A:Around) (outer:List PySem.Env) (s:Shared) (H1:Hp) (us:List Value) (vs:List V) (Q:VK) (E:XK),Room k A->Env0 P w K mg base A outer s H1->(∀b o u,H b=some (.frz o u)->H1 b=some (.frz o u))->Vals vs us->TF K n G vs H1 Q E->
  codeAny (model P w) A (.call (.ref a) ⟨us,[]⟩) (CR CX0 outer P w H1 s Q E) s
noncomputable def Ht (i a:Nat) (G:List D->R D) (n:Nat) (fa:aq->R (List D)):aq->R D:=λ ρ=>match ρ[i]? with
 |some (some (.obj (.fn b)))=>if b=a then (fa ρ).bind (bh G n) else .bad
 |_=> .bad
section
variable {X:Cx} {k m n:Nat} {G:List D->R D} {x:Str} {p pos:Pos} {e:Expr} {es:List Expr} {fa:aq->R (List D)} {a:Addr}
theorem Uk (i:Nat) (hc:Dw X.prog X.w X.K X.mg X.base k G n a X.H₀) (hr:Room m X.A) (hkm:k<=m) (ha:DA X (e::es) fa) (hN:autoParam (X.N[i]?=some x) bB._auto_1) (hv:autoParam (Vis X.env.scope x) ZM._auto_1)
  (hd:autoParam ((x ==("__debug__" :Str))=false) dM._auto_1) (hcd:autoParam ((x ==("__classdict__" :Str))=false) dM._auto_1) (he:autoParam (starEach (e::es) X.env=(false,eval e X.env)::starEach es X.env) bB._auto_1) (hpl:autoParam ((backTo pos (starEach es X.env)).any (·.1)=false) bB._auto_1):
  DE X (.Call (.Name x p) (e::es) [] pos) (Ht i a G n fa):=by
 intro pins s σ H Q I h
 obtain⟨ρ,O,j,h⟩:=h
 unfold Ht at h
 rcases q:ρ[i]? with _ |_ |(_ |_ |_ |(_ |b)) <;> rw[q] at h
 ·exact h.elim
 ·exact h.elim
 ·exact h.elim
 ·exact h.elim
 ·exact h.elim
 ·exact h.elim
 ·dsimp only at h
  by_cases hb:b=a
  ·subst hb
   rw[if_pos rfl] at h
   obtain⟨v,hv1,rfl,o,fd,ho,hod⟩:=j.env.get i _ q
   have at':∀{s':Shared} {H':Hp},Inv X pins σ H' s'->Same H H'->PySem.W.FnAt b s'.heap:=λ {s' H'} I' sm=>by
    obtain⟨ho',_⟩:=I'.hok b _ (sm _ _ ho)
    obtain⟨v1,v2,v3,v4⟩:=o
    have hod:v3= .func fd:=hod
    subst hod
    exact⟨v1,v2,fd,v4,ho'⟩
   refine wpAny_Call_Name_kw (thn (pe_var hN hv hd hcd pins s σ H (λ v H1=>v= .ref b/\H1=H) I ⟨_,hv1,rfl,rfl⟩) λ u s1 bY=>?_)
   obtain⟨v',H1,I1,r1,e1,e2⟩:=bY
   subst e1 e2
   obtain rfl:u=Value.ref b:=r1
   have key:tG X (ZR X) fa σ H1 (λ vs H2=>Same H1 H2/\TF X.K n G vs H2 Q E0):=by
    refine go j h λ ds vs H2 e1 s2 r2 j2 h2=>⟨s2,?_⟩
    unfold bh at h2
    by_cases hl:ds.length=n
    ·rw[if_pos hl] at h2
     refine⟨O,ds,r2,hl,j2.al,?_⟩
     cases q:G ds with
     |ok d=>rw[q] at h2;exact h2
     |err c=>rw[q] at h2;exact h2
     |bad=>rw[q] at h2;exact h2
    ·rw[if_neg hl] at h2;exact h2.elim
   refine PySem.W.callWith_F (at' I1 (Same.refl _)) (thn (ha pos pins s1 σ H1 _ I1 key) λ us s2 ⟨vs,H2,I2,r,sm,q2⟩=>⟨at' I2 sm,?_⟩) he hpl
   refine wpAny_call (codeAny_mono (hc X.A X.stack s2 H2 us vs Q E0 (hr.mono hkm) I2.env0 I2.base.frzs r q2) λ r s' hq=>?_)
   cases r with
   |error e=>exact pass0 pins σ H2 s2 e s' I2 hq
   | ok fl=>
    cases fl with
    |ret u=>exact I2.after hq
    |next=>exact False.elim hq
    |brk=>exact False.elim hq
    |cont=>exact False.elim hq
  ·rw[if_neg hb] at h;exact h.elim
end
inductive SpS (P:Program) (w:World) (mg:Str->Option Value) (base:Heap) (k:Nat) (K:PySem.W.Frag) (n q:Nat) (F:Addr->(List D->R D)->List D->R D) (vs:List V) (H:Hp) (Q:VK):Prop
 | mk (O:Addr->Prop) (ds:List D) (xs:List V) (a:Addr) (G:List D->R D) (e:vs=xs++[.ref a]) (r:aZ K O H ds xs) (hl:ds.length=n) (al:∀b,O b->∃o,H b=some o) (ro:uO K H (.fn a) (.ref a)) (hc:Dw P w K mg base k G q a H) (h:match F a G ds with
  | .ok d=>∀v H',Same H H'->Rep K O H' d v->Q v H'
  |_=>False):SpS P w mg base k K n q F vs H Q
noncomputable def spS (P:Program) (w:World) (mg:Str->Option Value) (base:Heap) (k:Nat) (K:PySem.W.Frag) (n q:Nat) (F:Addr->(List D->R D)->List D->R D):Sp:=λ vs H Q Z=>SpS P w mg base k K n q F vs H Q
section
variable {P:Program} {w:World} {K:PySem.W.Frag} {mg:Str->Option Value} {base:Heap}
theorem fnS {x qual:Str} {st:Stmt} {f:Addr} {fd:FuncData} {N ps:List Str} {k kG n m q:Nat} {g:Addr->(List D->R D)->aq->So} (Fn:Fun K x qual st f fd) (S:FnScope N ps (defScope st)) (hn:ps.length=n+1) (hm:N.length=n+1+m)
  (hb:∀(cdv:Value) (A:Around) (outer:List PySem.Env) (s:Shared) (H:Hp) (E:XK) (a:Addr) (G:List D->R D),Room k (A.deeper (envOfC qual (defScope st) s.heap.objs.size f cdv))->Dw P w K mg base kG G q a H->cW (cxOf CX0 P w K mg base N qual (defScope st) f cdv A outer s H E).nox (defBody st) (g a G)):
  FnOk P w K mg base CX0 (k+1) f fd ps (spS P w mg base kG K n q (λ a G ds=>lq m (g a G) (ds.map .val++[.obj (.fn a)]))):=by
 obtain⟨oc,od,kV,doc,pm,an,cdv,ct,osl,rfl,lk,hcd⟩:=Fn.ex
 refine fn_of lk hcd S (λ vs H Q E h=>?_) λ A outer s H vs Q E hr h=>?_
 ·obtain⟨O,ds,xs,a,G,rfl,r,hl,_⟩:=h
  rw[hn,List.length_append,<-r.length,hl];rfl
 ·obtain⟨O,ds,xs,a,G,rfl,r,hl,al,ro,hc,h⟩:=h
  have HN:N.length=(xs++[V.ref a]).length+m:=by rw[hm,List.length_append,<-r.length,hl];rfl
  refine⟨_,(hb cdv A outer s H E a G hr hc).nox,H,O,O,(ds.map Ent.val++[Ent.obj (.fn a)]).map some++List.replicate m none,?_,aad h⟩
  rw[Jh HN]
  refine Jg (X:=(cxOf CX0 P w K mg base N qual (defScope st) f cdv A outer s H E).nox) (by rw[List.length_append,List.length_map,r.length];rw[List.length_append] at HN;exact HN) (Kc (wY r) (.cons ⟨ro,rfl⟩ .nil)) al
end
end Pu
namespace Pu
open PySem PySem.Spec L2
open PyProof.Rows hiding St
noncomputable def del (H:Hp) (c:Addr):Hp:=λ b=>if b=c then none else H b
theorem lu {H:Hp} {c:Addr}:del H c c=none:=if_pos rfl
theorem dH {H:Hp} {b c:Addr} (h:b≠c):del H c b=H b:=if_neg h
theorem afu {H:Hp} {b c:Addr} {u:HO} (h:del H c b=some u):b≠c/\H b=some u:=by
 by_cases e:b=c
 ·rw[e,lu] at h;injection h
 ·rw[dH e] at h;exact⟨e,h⟩
section
variable {P:Program} {w:World} {H:Hp} {h:Heap} {c:Addr} {co:Obj} {u:Option Value}
theorem aae (x:HOk P w H h) (hc:H c=some (.frz co (.own c))) (hd:co.data= .cell u):HOk P w (del H c) h:=λ b v q=>by
 obtain⟨nb,q⟩:=afu q
 refine (x b v q).stay (λ Z Z Z z=>z) (λ d z=>?_) (λ d xs z=>?_) λ d o v' hv z=>?_
 ·rw[dH (λ e=>by rw[e,hc] at z;(injection z with aH;injection aH))];exact z
 ·rw[dH (λ e=>by rw[e,hc] at z;(injection z with aH;injection aH))];exact z
 ·rw[dH (λ e=>by rw[e,hc] at z;(injection z with aH;injection aH with cV wV;subst cV;subst wV);obtain⟨vs,y⟩:=hv;rw[hd] at y;injection y)];exact z
theorem aaf (x:HOk P w H h) (hn:H c=none) (ho:h.get? c=some co):HOk P w (upd H c (.frz co (.own c))) h:=λ b v q=>by
 have old:∀b u,H b=some u->upd H c (.frz co (.own c)) b=some u:=λ b u z=>by rw[upd_ne (ne_of_none z hn)];exact z
 by_cases hb:b=c
 ·subst hb
  rw[upd_same] at q;(injection q with aH;subst aH)
  exact⟨ho,co,ho⟩
 ·rw[upd_ne hb] at q
  exact (x b v q).stay (λ Z Z Z z=>z) (λ d z=>old _ _ z) (λ d xs z=>old _ _ z) λ d o v' Z z=>old _ _ z
theorem aag {O:Addr->Prop} (hc:H c=some (.frz co (.own c))):Ext O H (del H c):=by
 refine⟨λ b xs z=>?_,λ b xs Z z=>?_⟩
 ·have nb:b≠c:=λ e=>by rcases z with z |⟨o,z⟩ <;> rw[e,hc] at z <;> (first |(injection z with aH;injection aH with cV wV;subst cV;injection wV) |(injection z with aH;injection aH))
  rcases z with z |⟨o,z⟩
  ·exact .inl (by rw[dH nb];exact z)
  ·exact .inr ⟨o,by rw[dH nb];exact z⟩
 ·have nb:b≠c:=λ e=>by rcases z with z |⟨o,z⟩ <;> rw[e,hc] at z <;> (first |(injection z with aH;injection aH with cV wV;subst cV;injection wV) |(injection z with aH;injection aH))
  rcases z with z |⟨o,z⟩
  ·exact .inl (by rw[dH nb];exact z)
  ·exact .inr ⟨o,by rw[dH nb];exact z⟩
end
section
variable {M:Model} {A:Around} {E:Value->Shared->Prop} {s:Shared}
theorem Kd {env env':PySem.Env} (f f':Str×Value->PUnit->Sem (ForInStep PUnit)) (hf:∀n v u,f (n,v) u=(do storeName env n v;pure (.yield ⟨⟩))) (hf':∀n v u,f' (n,v) u=(do storeName env' n v;pure (.yield ⟨⟩))):
  ∀binds:List (Str×Value),(∀x∈binds,∀v,storeName env x.1 v=storeName env' x.1 v)->(forIn binds (⟨⟩:PUnit) f:Sem PUnit)=forIn binds (⟨⟩:PUnit) f'
 |[],_=>rfl
 | (n,v)::r,h=>by
  rw[List.forIn_cons,List.forIn_cons,hf,hf',h (n,v) List.mem_cons_self v]
  simp only[bind_assoc,pure_bind]
  rw[Kd f f' hf hf' r λ x hx=>h x (List.mem_cons_of_mem _ hx)]
theorem aah {env:PySem.Env} {n:Str} {v:Value} (hk:env.scope.kind= .function) (h:env.scope.names.lookup n=some .local):storeName env n v=nsSet env.locals n v:=by
 have h:env.kindOf n=some .local:=h
 simp[storeName,h,hk]
theorem aai {env:PySem.Env} {n:Str} {v:Value} {d:Addr} (hk:env.scope.kind= .function) (h:env.scope.names.lookup n=some .cell) (hd:env.cells.lookup n=some d):storeName env n v=cellSet d (some v):=by
 have h:env.kindOf n=some .cell:=h
 simp[storeName,h,hk,cellOf,hd]
theorem X6 {scope:Scope} {globals:Addr} {clos:List (Str×Addr)} {binds:List (Str×Value)} {qual:Str} {func:Option Addr} {code:Value} {builtins:Addr} {Q:PySem.Env->Shared->Prop}
  (hk:scope.kind= .function)
  (hkind:∀x∈binds,scope.names.lookup x.1=some .local\/(scope.names.lookup x.1=some .cell/\((cellsFrom (s.heap.objs.size+1) scope.names []).lookup x.1).isSome=true))
  (hQ:∀s',InCallC s s.heap.objs.size (bindL (λ q=>scope.names.lookup q) binds λ Z=>none) (cellsFrom (s.heap.objs.size+1) scope.names []) (bindC (λ q=>scope.names.lookup q) binds λ Z=>none) s'->
   Q (newEnv scope s.heap.objs.size globals (cellsFrom (s.heap.objs.size+1) scope.names []++clos) qual func code none builtins) s'):
  wpAny M A (newFunctionEnv scope globals clos binds qual func code none builtins) Q E s:=by
 simp only[newFunctionEnv,Option.isSome_none,Bool.false_eq_true,if_false]
 refine wpAny_bind (wpAny_alloc ?_)
 refine wpAny_bind (wpAny_layCells _ (λ name kind cells=>by cases hkc:kind ==NameKind.cell <;> simp[hkc]) _ _ _ _ ?_)
 have ok:=cellsFrom_ok scope.names (s.heap.push {cls:= .type "frame",data:= .dict #[]}) (s.heap.objs.size+1) [] ⟨λ Z Z hm=>(nomatch hm),List.Pairwise.nil⟩ (by rw[Heap.size_push];exact z0g _)
 rw[Heap.size_push] at ok
 rw[show ({s with heap:=s.heap.push {cls:= .type "frame",data:= .dict #[]}}:Shared).heap.objs.size=s.heap.objs.size+1 from Heap.size_push ..]
 rw[d7]
 have eq:=Kd (env:=newEnv scope s.heap.objs.size globals (cellsFrom (s.heap.objs.size+1) scope.names []++clos) qual func code none builtins) (env':=newEnv scope s.heap.objs.size globals (cellsFrom (s.heap.objs.size+1) scope.names []) qual func code none builtins)
  (λ x Z=>do storeName (newEnv scope s.heap.objs.size globals (cellsFrom (s.heap.objs.size+1) scope.names []++clos) qual func code none builtins) x.1 x.2;pure (.yield ⟨⟩))
  (λ x Z=>do storeName (newEnv scope s.heap.objs.size globals (cellsFrom (s.heap.objs.size+1) scope.names []) qual func code none builtins) x.1 x.2;pure (.yield ⟨⟩)) (λ Z Z Z=>rfl) (λ Z Z Z=>rfl) binds (λ x hx v=>by
   rcases hkind x hx with z |⟨z,z2⟩
   ·rw[aah hk z,aah hk z];rfl
   ·obtain⟨d,hd⟩:=Option.isSome_iff_exists.mp z2
    have e1:(cellsFrom (s.heap.objs.size+1) scope.names []++clos).lookup x.1=some d:=by rw[List.lookup_append,hd];rfl
    rw[aai hk z e1,aai hk z hd])
 refine wpAny_bind ?_
 show wpAny M A (forIn binds (⟨⟩:PUnit) (λ x Z=>do storeName (newEnv scope s.heap.objs.size globals (cellsFrom (s.heap.objs.size+1) scope.names []++clos) qual func code none builtins) x.1 x.2;pure (.yield ⟨⟩))) _ E _
 rw[eq]
 exact wpAny_bindParams (s₀:=s) (env:=newEnv scope s.heap.objs.size globals (cellsFrom (s.heap.objs.size+1) scope.names []) qual func code none builtins)
  _ (λ Z Z Z=>rfl) hk binds (λ Z=>none) (λ Z=>none) _ _
  ⟨⟨⟨_,_,rfl⟩,(Heap.Ns.new s.heap (.type "frame")).keeps (pushCells_keeps _ _),λ b o e=>pushCells_keeps _ _ b o (Heap.get?_push_of_some _ e),z0g _⟩,
   λ n c hc=>(ok.empty n c (mem_of_lookup hc)).1,ok.apart,λ n c hm=>(ok.empty n c hm).2⟩
  hkind λ s' x=>wpAny_pure (hQ s' x)
end
structure M7 (N P:List Str) (y:Str) (sc:Scope):Prop where
 kind:sc.kind= .function
 co:sc.isCoroutine=false
 gen:sc.isGenerator=false
 nd:N.Nodup
 pre:N.take (P.length+1)=P++[y]
 par:∀x∈P,sc.names.lookup x=some .local\/sc.names.lookup x=some .cell
 PL:sc.names.lookup y=some .free
 only:∀z∈sc.names,z.2= .free->z.1=y
 cel:∀z∈sc.names,z.2= .cell->sc.names.lookup z.1=some .cell
section
variable (P:Program) (w:World) (K:PySem.W.Frag) (mg:Str->Option Value) (base:Heap) (N:List Str) (qual:Str) (scope:Scope) (f:Addr) (cd:Value) (A:Around) (outer:List PySem.Env) (s:Shared) (H:Hp) (y:Str) (c:Addr)
noncomputable abbrev Aq:PySem.Env:=PySem.W.envX qual scope s.heap.objs.size f cd (cellsFrom (s.heap.objs.size+1) scope.names []++[(y,c)])
noncomputable def Ar:Cx where
 prog:=P
 w:=w
 K:=K
 mg:=mg
 base:=base
 A:=A.deeper (Aq qual scope f cd s y c)
 N:=N
 s₀:=s
 H₀:=H
 env:=Aq qual scope f cd s y c
 outer:=outer
 stack:=Aq qual scope f cd s y c::outer
 ex:=[]
 calm:=true
 fn:=λ x=>decide (x≠y)
 pn:=[]
 xe:=λ Z Z=>False
end
section
variable {P:Program} {w:World} {K:PySem.W.Frag} {mg:Str->Option Value} {base:Heap}
theorem ai8 {N ps:List Str} {qual:Str} {scope:Scope} {f:Addr} {cd:Value} {A:Around} {outer:List PySem.Env} {s s1:Shared} {H:Hp} {us:List Value} {vs:List V} {y:Str} {c:Addr} {vy:V} {uy:Value}
  (S:M7 N ps y scope) (hd:A.handled=none) (e0:Env0 P w K mg base A outer s H) (hl:vs.length=ps.length) (r:Vals vs us) (hc:s.heap.IsCell c (some uy)) (hy:RelV vy uy) (hHc:H c=none)
  (x:InCallC s s.heap.objs.size (bindL (λ q=>scope.names.lookup q) (ps.zip us) λ Z=>none) (cellsFrom (s.heap.objs.size+1) scope.names []) (bindC (λ q=>scope.names.lookup q) (ps.zip us) λ Z=>none) s1):
  Inv (Ar P w K mg base N qual scope f cd A outer s H y c) [] (start N (vs++[vy])) H s1:=by
 have hpl:ps.length+1<=N.length:=by have:=congrArg List.length S.pre;rw[List.length_take,List.length_append,List.length_singleton] at this;exact akm this
 obtain⟨h1,tk,rfl,hk⟩:=x.done
 have noA:∀b:Addr,b∉(Ar P w K mg base N qual scope f cd A outer s H y c).ex:=λ b z=>absurd (show b∈([]:List Addr) from z) (by simp)
 have clt:c < s.heap.objs.size:=hc.lt
 have cells:∀z d,(Aq qual scope f cd s y c).cells.lookup z=some d->((cellsFrom (s.heap.objs.size+1) scope.names []).lookup z=some d/\scope.names.lookup z=some .cell)\/(z=y/\d=c):=λ z d q=>by
  have q:(cellsFrom (s.heap.objs.size+1) scope.names []++[(y,c)]).lookup z=some d:=q
  rw[List.lookup_append] at q
  cases e:(cellsFrom (s.heap.objs.size+1) scope.names []).lookup z with
  | some d'=>
   rw[e] at q
   have q:d'=d:=by simpa using q
   subst q
   obtain⟨m1,_⟩:=lH _ _ (PySem.mem_of_lookup e)
   exact .inl ⟨rfl,S.cel _ m1 rfl⟩
  | none=>
   rw[e] at q
   have q:List.lookup z [(y,c)]=some d:=by simpa using q
   rw[List.lookup_cons] at q
   cases hz:z ==y with
   |true=>rw[hz] at q;(injection q with aH;subst aH);exact .inr ⟨by simpa using hz,rfl⟩
   |false=>rw[hz] at q;injection q
 have kept:(Aq qual scope f cd s y c).cells.lookup y=some c:=by
  show (cellsFrom (s.heap.objs.size+1) scope.names []++[(y,c)]).lookup y=some c
  rw[List.lookup_append]
  cases e:(cellsFrom (s.heap.objs.size+1) scope.names []).lookup y with
  | some d=>
   obtain⟨m1,_⟩:=lH _ _ (PySem.mem_of_lookup e)
   have:=S.cel _ m1 rfl
   rw[S.PL] at this;(injection this with aH;injection aH)
  |none=>simp[List.lookup_cons]
 refine⟨⟨e0.mod,S.kind,rfl,rfl,z0g _,λ z z' d h1 h2=>?_,λ z hz=>?_,λ z d hf h=>?_,λ Z=>hd,Around.frames_deeper e0.frames,.inr ⟨rfl,rfl⟩,λ b z=>absurd z (noA b),e0.bs,e0.bsz,λ b Z Z=>noA b,λ b z=>absurd z (noA b),e0.funs,e0.frf⟩,
  rfl,e0.bare,Un.kept hk,⟨_,x.toInCall.ns,λ i z v h1 h2 h3=>?_⟩,λ z d h=>?_,e0.hok.fresh (z0g _),λ z d h=>?_,λ p hp=>absurd (show p∈([]:List (Addr×Obj)) from hp) (by simp),e0.hok.kept hk,?_⟩
 ·rcases cells z d h1 with⟨q1,_⟩ |⟨q1,q2⟩ <;> rcases cells z' d h2 with⟨q3,_⟩ |⟨q3,q4⟩
  ·exact name_of_addr x.apart (PySem.mem_of_lookup q1) (PySem.mem_of_lookup q3)
  ·have:=x.above z d (PySem.mem_of_lookup q1);rw[q4] at this;exact absurd (Nat.lt_trans clt this) (Nat.lt_irrefl _)
  ·have:=x.above z' d (PySem.mem_of_lookup q3);rw[q2] at this;exact absurd (Nat.lt_trans clt this) (Nat.lt_irrefl _)
  ·rw[q1,q3]
 ·have hz:scope.names.lookup z=some .cell\/scope.names.lookup z=some .free:=hz
  rcases hz with hz |hz
  ·obtain⟨d,e⟩:=cell_has (n:=s.heap.objs.size+1) hz
   exact⟨d,by show (cellsFrom (s.heap.objs.size+1) scope.names []++[(y,c)]).lookup z=some d;rw[List.lookup_append,e];rfl⟩
  ·have e:=S.only _ (PySem.mem_of_lookup hz) rfl
   have e:z=y:=e
   rw[e];exact⟨c,kept⟩
 ·have hf:z≠y:=of_decide_eq_true hf
  rcases cells z d h with⟨q1,_⟩ |⟨q1,_⟩
  ·exact z0e (x.above z d (PySem.mem_of_lookup q1))
  ·exact absurd q1 hf
 ·have hi:i < vs.length+1:=by
   unfold L2.start at h2
   by_cases hi:i < vs.length+1
   ·exact hi
   ·rw[List.getElem?_append_right (by simpa using hi)] at h2
    rw[List.getElem?_replicate] at h2
    split at h2 <;> (first |(injection h2 with aH;injection aH) |injection h2)
  have ha:(vs++[vy])[i]?=some v:=by
   unfold L2.start at h2
   rw[List.getElem?_append_left (by simpa using hi),List.getElem?_map] at h2
   cases e:(vs++[vy])[i]? with
   |none=>rw[e] at h2;injection h2
   |some a=>rw[e] at h2;cases h2;rfl
  have hp:(ps++[y])[i]?=some z:=by
   rw[<-S.pre,List.getElem?_take_of_lt (by exact akn hi hl)];exact h1
  by_cases hiv:i < vs.length
  ·rw [List.getElem?_append_left hiv] at ha
   rw[List.getElem?_append_left (by exact aie hiv hl)] at hp
   obtain⟨u,hu,rv⟩:=r.get ha
   have ndP:ps.Nodup:=by
    have q:(ps++[y]).Nodup:=by rw[<-S.pre];exact S.nd.sublist (List.take_sublist _ _)
    exact (List.nodup_append.mp q).1
   refine⟨u,rv,?_⟩
   rcases S.par z (List.mem_of_getElem? hp) with k |k
   ·exact .inl ⟨k,bindL_get ndP hp hu k⟩
   ·obtain⟨d,e⟩:=cell_has (n:=s.heap.objs.size+1) k
    refine .inr ⟨.inl k,d,?_,?_⟩
    ·show (cellsFrom (s.heap.objs.size+1) scope.names []++[(y,c)]).lookup z=some d
     rw[List.lookup_append,e];rfl
    ·have q:=x.cell z d e
     rw[bindC_get ndP hp hu (by rw[k];decide)] at q
     exact q
  ·have ei:i=vs.length:=by exact ae6 hi hiv
   subst ei
   rw[List.getElem?_append_right (z0g _)] at ha
   rw[hl,List.getElem?_append_right (z0g _)] at hp
   have ha:vy=v:=by simpa using ha
   have hp:y=z:=by simpa using hp
   subst ha hp
   exact⟨uy,hy,.inr ⟨.inr S.PL,c,kept,hc.keeps hk⟩⟩
 ·rcases cells z d h with⟨q1,_⟩ |⟨_,q2⟩
  ·exact⟨_,x.cell z d q1⟩
  ·rw[q2];exact⟨_,hc.keeps hk⟩
 ·rcases cells z d h with⟨q1,_⟩ |⟨_,q2⟩
  ·exact e0.hok.fresh (z0e (x.above z d (PySem.mem_of_lookup q1)))
  ·rw[q2];exact hHc
 ·unfold L2.start
  show _=N.length
  rw[List.length_append,List.length_map,List.length_replicate,List.length_append,List.length_singleton]
  exact ako hpl hl
theorem ai9 {N ps:List Str} {name qual:Str} {params:Arguments} {body:List Stmt} {scope:Scope} {y:Str} {k n m:Nat} {g:aq->So} {my:Int} {a c:Addr} {H:Hp} {co:Obj} {uy:Value}
  (S:M7 N ps y scope) (hn:ps.length=n) (hm:N.length=n+1+m)
  (hbind:∀(doc pm:Value) (cl:List (Str×Addr)) (cdv ct:Value) (us:List Value),us.length=ps.length->bindArgs (PySem.W.fnX name qual params body scope cl .none .none doc pm none cdv ct) ⟨us,[]⟩=pure (ps.zip us))
  (hb:∀(cdv:Value) (A:Around) (outer:List PySem.Env) (s:Shared) (H:Hp) (f c:Addr),Room k (A.deeper (Aq qual scope f cdv s y c))->cW (Ar P w K mg base N qual scope f cdv A outer s H y c) body g)
  (fh:mQ H a name qual params body scope [(y,c)]) (hc:H c=some (.frz co (.own c))) (hcd:co.data= .cell (some uy)) (hy:RelV (.int my) uy):
  Dw P w K mg base (k+1) (λ ds=>lq m g (ds.map .val++[.val (.int my)])) n a H:=by
 intro A outer s H1 us vs Q E hr e0 hz r sp
 obtain⟨O,ds,rs,hl,al,sp⟩:=sp
 have sp:(match lq m g (ds.map Ent.val++[Ent.val (.int my)]) with | .ok d=>∀v H',Same H1 H'->Rep K O H' d v->Q v H' |_=>False):=sp
 obtain⟨fo,doc,pm,c',ctv,oc,vq,t,f1,f2,f3,f4,f5⟩:=fh.fz hz
 have hc1:=hz _ _ _ hc
 obtain⟨hco,_⟩:=e0.hok c _ hc1
 obtain⟨hfo,_⟩:=e0.hok a _ f1
 obtain⟨hoc,_⟩:=e0.hok c' _ f3
 have KX:K.In s.heap:=e0.mod.kin.keeps λ b o e=>(e0.bs b o e).1
 have lim:s.heap.NoLimit:=e0.mod.nolimit.keeps λ b o e=>(e0.bs b o e).1
 have e1:Env0 P w K mg base A outer s (del H1 c):=⟨e0.frames,e0.mod,λ b o e=>⟨(e0.bs b o e).1,by
  by_cases q:b=c
  ·rw[q];exact lu
  ·rw[dH q];exact (e0.bs b o e).2⟩,e0.bsz,e0.funs,λ b hb=>by
  by_cases q:b=c
  ·rw[q];exact lu
  ·rw[dH q];exact e0.frf b hb,aae e0.hok hc1 hcd,e0.bare⟩
 have hlu:us.length=ps.length:=by rw[<-r.length,<-rs.length,hl,hn]
 have hkind:∀z∈ps.zip us,scope.names.lookup z.1=some .local\/(scope.names.lookup z.1=some .cell/\((cellsFrom (s.heap.objs.size+1) scope.names []).lookup z.1).isSome=true):=λ ⟨q,v⟩ hy=>by
  rcases S.par q (List.of_mem_zip hy).1 with z |z
  ·exact .inl z
  ·exact .inr ⟨z,PySem.W.cellsFrom_some _ _ _ (.inl z)⟩
 refine codeAny_call_function hr.depth hfo f2 S.co S.gen rfl ⟨c',oc,vq,t,rfl,hoc,f4,f5⟩ ?_
 rw[hbind doc pm _ _ _ us hlu]
 refine wpAny_pure (X6 S.kind hkind λ s1 x=>?_)
 refine⟨lim.keeps x.toInCall.keep,codeAny_func ?_⟩
 have I:Inv (Ar P w K mg base N qual scope a (.ref c') A outer s (del H1 c) y c) [] (start N (vs++[.int my])) (del H1 c) s1:=
  ai8 S hr.hd e1 (by rw[<-rs.length,hl,hn]) r ⟨co,hco,hcd⟩ hy lu x
 have HN:N.length=(vs++[V.int my]).length+m:=by rw[hm,List.length_append,<-rs.length,hl];rfl
 have rs':aZ K (λ b=>O b/\b≠c) (del H1 c) ds vs:=aZ.ext (aag hc1) (λ b xs nb Z z=>nb z.1) ds vs rs
 have J:At (Ar P w K mg base N qual scope a (.ref c') A outer s (del H1 c) y c) (del H1 c) (λ b=>O b/\b≠c) (λ b=>O b/\b≠c) (del H1 c) ((ds.map Ent.val++[Ent.val (.int my)]).map some++List.replicate m none) (start N (vs++[.int my])):=by
  rw[Jh HN]
  refine Jg (by show N.length=_;rw[List.length_append,List.length_map,rs.length];rw[List.length_append] at HN;exact HN) (Kc (wY rs') (.cons ⟨(cO (K:=K) (O:=λ b=>O b/\b≠c) (H:=del H1 c) my:sY K (λ b=>O b/\b≠c) (del H1 c) (.val (.int my)) (.int my)),rfl⟩ .nil)) λ b z=>?_
  obtain⟨o,q⟩:=al b z.1
  exact⟨o,by rw[dH z.2];exact q⟩
 have run:=hb (.ref c') A outer s (del H1 c) a c (hr.deeper _) [] s1 _ _ {nx:=λ Z H'=>lq m g (ds.map .val++[.val (.int my)])= .ok .non/\Same (del H1 c) H',rt:=λ v H'=>∃d,lq m g (ds.map .val++[.val (.int my)])= .ok d/\Same (del H1 c) H'/\Rep K (λ b=>O b/\b≠c) H' d v} I ⟨_,_,_,_,J,by
  unfold lq at sp |-
  cases e2:g ((ds.map Ent.val++[Ent.val (.int my)]).map some++List.replicate m none) with
  |rt d=>exact λ v H' s' r'=>⟨d,by simp only[e2],s',r'⟩
  |nx ρ'=>exact λ σ' H' O' j' Z=>⟨by simp only[e2],j'.same⟩
  |bk _=>rw[e2] at sp;exact sp.elim
  |ct _=>rw[e2] at sp;exact sp.elim
  |ex _ _=>rw[e2] at sp;exact sp.elim
  |bad=>rw[e2] at sp;exact sp.elim⟩
 have cfr:c∉frs outer:=λ z=>by rw[e0.frf c z] at hc1;injection hc1
 have fin:∀{σ':St} {H':Hp} {v:V} {u:Value} {s':Shared} {d:D},Inv (Ar P w K mg base N qual scope a (.ref c') A outer s (del H1 c) y c) [] σ' H' s'->RelV v u->lq m g (ds.map .val++[.val (.int my)])= .ok d->Same (del H1 c) H'->Rep K (λ b=>O b/\b≠c) H' d v->CE outer P w H1 s Q u s':=λ {σ' H' v u s' d} J rv ed sm rd=>by
  have hn':H' c=none:=J.base.free c co hco lu (by simp[Ar])
  have hc':s'.heap.get? c=some co:=J.base.keep c co hco lu cfr (by simp[Ar])
  have ol:∀b,b≠c->upd H' c (.frz co (.own c)) b=H' b:=λ b z=>upd_ne z
  have kIn:K.In s'.heap:=J.kIn
  refine⟨v,upd H' c (.frz co (.own c)),J.os,J.bare,⟨λ b o q nb hb hx=>?_,λ b o q nb hb hx=>?_,λ b o q nb hx=>?_,λ b o q hx=>J.base.there b o q hx,λ b xs q=>?_,λ b o u q=>?_,λ b ps q=>?_⟩,aaf J.hok hn' hc',rv,?_⟩
  ·exact J.base.keep b o q (show del H1 c b=none by by_cases z:b=c;(rw[z];exact lu);rw[dH z];exact nb) hb hx
  ·exact J.base.slot b o q (show del H1 c b=none by by_cases z:b=c;(rw[z];exact lu);rw[dH z];exact nb) hb hx
  ·have nc:b≠c:=λ z=>by rw[z,hc1] at nb;injection nb
   rw[ol b nc];exact J.base.free b o q (show del H1 c b=none by rw[dH nc];exact nb) hx
  ·have nc:b≠c:=λ z=>by rw[z,hc1] at q;(injection q with aH;injection aH)
   rw[ol b nc];exact J.base.tups b xs (show del H1 c b=some _ by rw[dH nc];exact q)
  ·by_cases nc:b=c
   ·rw[nc,hc1] at q;(injection q with aH;injection aH with cV wV;subst cV;subst wV);rw[nc,upd_same]
   ·rw[ol b nc];exact J.base.frzs b o u (show del H1 c b=some _ by rw[dH nc];exact q)
  ·have nc:b≠c:=λ z=>by rw[z,hc1] at q;(injection q with aH;injection aH)
   rw[ol b nc];exact J.base.tbls b ps (show del H1 c b=some _ by rw[dH nc];exact q)
  ·rw [ed] at sp
   have s2:Same H' (upd H' c (.frz co (.own c))):=Same.upd hn'
   refine sp v _ (λ b o q=>?_) ?_
   ·by_cases nc:b=c
    ·rw[nc,hc1] at q;(injection q with aH;subst aH);rw[nc,upd_same]
    ·exact s2 _ _ (sm b o (by rw[dH nc];exact q))
   ·refine Rep.ext ⟨λ b xs z=>Same.rd s2 z,λ b xs Z z=>Same.rd s2 z⟩ (λ b xs nb hq z=>?_) d v rd
    by_cases nc:b=c
    ·subst nc
     rcases hq with (hq |⟨o,hq⟩) |⟨o,its,n',hq,h4,_⟩
     ·rw[hn'] at hq;injection hq
     ·rw[hn'] at hq;injection hq
     ·have:=kIn _ _ hq
      rw[hc'] at this;(injection this with aH;subst aH)
      simp_all
    ·exact nb ⟨z,nc⟩
 refine wpAny_mono run (λ fl s' hs=>?_) λ e s' hs=>hs.elim
 cases fl with
 | ret u=>
  obtain⟨v,σ',H',J,rv,d,q1,q2,q3⟩:=hs
  exact fin J rv q1 q2 q3
 | next=>
  obtain⟨σ',H',J,q1,q2⟩:=hs
  exact fin (v:=V.non) (u:=Value.none) J rfl q1 q2 uF
 |brk=>obtain⟨_,_,_,q⟩:=hs;exact False.elim q
 |cont=>obtain⟨_,_,_,q⟩:=hs;exact False.elim q
end
end Pu
namespace Pu
open PySem PySem.Spec L2
open PyProof.Rows hiding St
section
variable {X:Cx} {name qual:Str} {params:Arguments} {body:List Stmt} {scope:Scope} {y xS:Str} {c fS:Addr} {Ul:FuncData} {Qg:List Str} {kS kG n q iy:Nat} {FS:Addr->(List D->R D)->List D->R D} {GG:Int->List D->R D} {p pos:Pos} {e:Expr} {es:List Expr} {ta:TA}
inductive agN (K:PySem.W.Frag) (name qual:Str) (params:Arguments) (body:List Stmt) (scope:Scope) (y:Str) (c:Addr) (iy n:Nat) (FS:Addr->(List D->R D)->List D->R D) (GG:Int->List D->R D) (σ:St) (Q:VK) (vs:List V) (H1:Hp):Prop
 |mk (O:Addr->Prop) (ds:List D) (xs:List V) (a:Addr) (my:Int) (d:D) (e:vs=xs++[.ref a]) (r:aZ K O H1 ds xs) (hl:ds.length=n) (al:∀b,O b->∃o,H1 b=some o) (fh:mQ H1 a name qual params body scope [(y,c)]) (hσ:σ[iy]?=some (some (.int my))) (hF:∀a,FS a (GG my) ds= .ok d) (hQ:∀v H',Same H1 H'->Rep K O H' d v->Q v H'):agN K name qual params body scope y c iy n FS GG σ Q vs H1
noncomputable def am2 (K:PySem.W.Frag) (name qual:Str) (params:Arguments) (body:List Stmt) (scope:Scope) (y:Str) (c:Addr) (iy n:Nat) (FS:Addr->(List D->R D)->List D->R D) (GG:Int->List D->R D) (ta:TA):TE:=λ σ H Q=>ta σ H λ vs H1=>agN K name qual params body scope y c iy n FS GG σ Q vs H1
theorem afv (Sw:FnOk X.prog X.w X.K X.mg X.base CX0 kS fS Ul Qg (spS X.prog X.w X.mg X.base kG X.K n q FS)) (hr:Room kS X.A) (hg:Gl X xS) (hm:X.mg xS=some (.ref fS)) (hk:PySem.W.keepIn X.K (.ref fS)=true) (hb:Binds X.K Ul Qg [])
  (afw:∀my a c H co uy,mQ H a name qual params body scope [(y,c)]->H c=some (.frz co (.own c))->co.data= .cell (some uy)->RelV (.int my) uy->Dw X.prog X.w X.K X.mg X.base kG (GG my) q a H)
  (hc:X.env.cells.lookup y=some c) (hyk:X.env.scope.names.lookup y=some .cell) (hfn:X.fn y=true) (hiy:X.N[iy]?=some y) (ha:PA X (e::es) ta) (hdb:autoParam ((xS ==("__debug__" :Str))=false) dM._auto_1)
  (he:autoParam (starEach (e::es) X.env=(false,eval e X.env)::starEach es X.env) bB._auto_1) (hpl:autoParam ((backTo pos (starEach es X.env)).any (·.1)=false) bB._auto_1):
  PE X (.Call (.Name xS p) (e::es) [] pos) (am2 X.K name qual params body scope y c iy n FS GG ta):=by
 intro pins s σ H Q I h
 refine wpAny_Call_Name_kw (ld_glob I hg hm ?_ hdb)
 refine PySem.W.callWith_K (h₀:=X.base) I.ok.mod.kin hk (thn (ha pos pins s σ H _ I h) λ us s1 ⟨vs,H1,I1,r,hq⟩=>⟨I1.kIn,?_⟩) he hpl
 obtain⟨O,ds,xs,a,my,d,rfl,rs,hl,al,fh,hσ,hF,hQ⟩:=hq
 obtain⟨m,hn,hl'⟩:=I1.loc
 obtain⟨uy,ry,look⟩:=hl' iy y (.int my) hiy hσ (.inr (.inl hyk))
 have hcell:s1.heap.IsCell c (some uy):=by
  rcases look with⟨z,_⟩ |⟨_,c2,z,hz⟩
  ·have z:X.env.scope.names.lookup y=some .local:=z
   rw[hyk] at z;(injection z with aH;injection aH)
  ·rw[hc] at z;(injection z with aH;subst aH);exact hz
 obtain⟨co,hco,hcd⟩:=hcell
 have hnc:H1 c=none:=I1.freeC y c hc
 have cab:X.s₀.heap.objs.size<=c:=I1.ok.cab y c hfn hc
 have sm:Same H1 (upd H1 c (.frz co (.own c))):=Same.upd hnc
 have nfr:∀b∈frs X.stack,b≠c:=λ b hb z=>by
  rcases List.mem_cons.mp (I1.stkSub b hb) with e |hb'
  ·exact I1.cne y c hc (z.symm.trans e)
  ·obtain⟨_,o,ho,_⟩:=I1.ok.funs.mem hb'
   exact absurd (z0d (Heap.lt_size ho) cab) (by rw[z];exact Nat.lt_irrefl _)
 have e0:=I1.env0
 have e1:Env0 X.prog X.w X.K X.mg X.base X.A X.stack s1 (upd H1 c (.frz co (.own c))):=⟨e0.frames,e0.mod,λ b o z=>⟨(e0.bs b o z).1,by
  rw[upd_ne (λ w=>by
   have:=Heap.lt_size (I1.ok.bs b o z).1
   rw[w] at this;exact absurd (z0d this cab) (Nat.lt_irrefl _))]
  exact (e0.bs b o z).2⟩,e0.bsz,e0.funs,λ b hb=>by rw[upd_ne (nfr b hb)];exact e0.frf b hb,aaf e0.hok hnc hco,e0.bare⟩
 obtain⟨fo,doc,pm,c',ctv,oc,vq,t,f1,f2,f3,f4,f5⟩:=id fh
 have fh1:=fh.fz λ b o u z=>sm b _ z
 have sp:spS X.prog X.w X.mg X.base kG X.K n q FS (xs++[.ref a]) (upd H1 c (.frz co (.own c))) (λ v H'=>Same (upd H1 c (.frz co (.own c))) H'/\Rep X.K O H' d v) E0:=by
  refine⟨O,ds,xs,a,GG my,rfl,rs.same sm,hl,λ b z=>let ⟨o,w⟩:=al b z;⟨o,sm _ _ w⟩,⟨rfl,fo,_,sm _ _ f1,f2⟩,afw my a c _ co uy fh1 upd_same hcd ry,?_⟩
  rw[hF a]
  exact λ v H' s' r'=>⟨s',r'⟩
 have hll:us.length=Qg.length:=by rw[<-r.length];exact Sw.len _ _ _ _ sp
 have hbb:=hb s1 us I1.kIn (by rw[List.append_nil];exact hll)
 rw[List.append_nil] at hbb
 refine wpAny_call (codeAny_mono (Sw.run X.A X.stack s1 _ ⟨us,[]⟩ us _ _ E0 hr e1 hbb r sp) λ rr s' hq=>?_)
 cases rr with
 |error ev=>exact hq.elim
 | ok fl =>
  cases fl with
  |next=>exact False.elim hq
  |brk=>exact False.elim hq
  |cont=>exact False.elim hq
  | ret u =>
   obtain⟨v,H',os,bare,un,hok,rv,q1,q2⟩:=hq
   have hc':H' c=some (.frz co (.own c)):=un.frzs c co _ upd_same
   have up:∀b,b≠c->upd H1 c (.frz co (.own c)) b=H1 b:=λ b z=>upd_ne z
   have un':Un (frs X.stack) [] H1 (del H' c) s1.heap s'.heap:=by
    refine⟨λ b o z nb hb hx=>?_,λ b o z nb hb hx=>?_,λ b o z nb hx=>?_,un.there,λ b xs z=>?_,λ b o u z=>?_,λ b ps z=>?_⟩
    ·by_cases bc:b=c
     ·subst bc
      rw[hco] at z;(injection z with aH;subst aH)
      exact (hok b _ hc').1
     ·exact un.keep b o z (by rw[up b bc];exact nb) hb hx
    ·exact un.slot b o z (by rw[up b (nfr b hb)];exact nb) hb hx
    ·by_cases bc:b=c
     ·rw[bc];exact lu
     ·rw[dH bc];exact un.free b o z (by rw[up b bc];exact nb) hx
    ·have bc:=ne_of_none z hnc
     rw[dH bc];exact un.tups b xs (by rw[up b bc];exact z)
    ·have bc:=ne_of_none z hnc
     rw[dH bc];exact un.frzs b o u (by rw[up b bc];exact z)
    ·have bc:=ne_of_none z hnc
     rw[dH bc];exact un.tbls b ps (by rw[up b bc];exact z)
   have J:Inv X pins σ (del H' c) s':=I1.call' os un' (aae hok hc' hcd) bare λ b z=>absurd z (by simp)
   refine⟨v,del H' c,J,rv,hQ v _ (λ b o z=>?_) ?_⟩
   ·have bc:=ne_of_none z hnc
    rw[dH bc];exact q1 b o (by rw[up b bc];exact z)
   ·exact Rep.ext (aag hc') (λ b xs nb Z z=>nb z) d v q2
end
open Classical in
noncomputable def allOf (f:Addr->R D):R D:=if h:∃d,∀a,f a= .ok d then .ok h.choose else .bad
theorem afx {f:Addr->R D} {d:D} (h:∀a,f a= .ok d):allOf f= .ok d:=by
 have e:∃d,∀a,f a= .ok d:=⟨d,h⟩
 unfold allOf
 rw[dif_pos e]
 have:=e.choose_spec 0
 rw[h 0] at this
 exact this.symm
theorem afy {f:Addr->R D} {d:D} (h:allOf f= .ok d) (a:Addr):f a= .ok d:=by
 unfold allOf at h
 by_cases e:∃d,∀a,f a= .ok d
 ·rw[dif_pos e] at h
  (injection h with aH;subst aH)
  exact e.choose_spec a
 ·rw[dif_neg e] at h;injection h
noncomputable def Tg (i iy:Nat) (f1 f2 f3:aq->R D) (FS:Addr->(List D->R D)->List D->R D) (GG:Int->List D->R D):aq->So:=λ ρ=>match ρ[i]?,ρ[iy]? with
 | some none,some (some (.val (.int my)))=>(match f1 ρ,f2 ρ,f3 ρ with
  | .ok a,.ok b,.ok d=>(match allOf (λ x=>FS x (GG my) [a,b,d]) with
   | .ok r=> .rt r
   |_=> .bad)
  |_,_,_=> .bad)
 |_,_=> .bad
section
variable {X:Cx} {name qual:Str} {params:Arguments} {body:List Stmt} {scope:Scope} {y xS:Str} {c cc P fS:Addr} {Ul:FuncData} {Qg:List Str} {kS kG q:Nat} {FS:Addr->(List D->R D)->List D->R D} {GG:Int->List D->R D} {p p4 pos pos2 aja:Pos} {e1 e2 e3:Expr} {f1 f2 f3:aq->R D}
theorem In.aor {O:Addr->Prop} {H:Hp} {ρ:aq} {σ:St} {i:Nat} {v:V} (j:In X O H ρ σ) (hn:ρ[i]?=some none):In X O H ρ (σ.set i (some v)):=by
 have ne:∀(k:Nat) e,ρ[k]?=some (some e)->i≠k:=λ k e h z=>by rw[<-z,hn] at h;(injection h with aH;injection aH)
 refine⟨⟨λ k e h=>?_,λ k l e e' u hkl hk hl ok ol sk sl=>?_⟩,j.al,by rw[List.length_set];exact j.len,j.sZ⟩
 ·obtain⟨v',q1,q2⟩:=j.env.get k e h
  exact⟨v',by rw[List.getElem?_set_ne (ne k e h)];exact q1,q2⟩
 ·rw[List.getElem?_set_ne (ne k e hk)] at sk
  rw[List.getElem?_set_ne (ne l e' hl)] at sl
  exact j.env.sep k l e e' u hkl hk hl ok ol sk sl
theorem ady {X:Cx} {H0 H:Hp} {O0 O:Addr->Prop} {E:Ends} {ρ:aq} {i iy:Nat} {f1 f2 f3:aq->R D} {FS:Addr->(List D->R D)->List D->R D} {GG:Int->List D->R D} (h:sI X H0 O0 O H E (Tg i iy f1 f2 f3 FS GG ρ)):∃my d1 d2 d3,ρ[i]?=some none/\ρ[iy]?=some (some (.val (.int my)))/\f1 ρ= .ok d1/\f2 ρ= .ok d2/\f3 ρ= .ok d3/\sI X H0 O0 O H E (match allOf (λ x=>FS x (GG my) [d1,d2,d3]) with | .ok r=> .rt r |_=> .bad):=by
 unfold Tg at h
 rcases q1:ρ[i]? with _ |_ |_ <;> rw[q1] at h
 ·exact h.elim
 ·rcases q2:ρ[iy]? with _ |_ |((_ |_ |my |_ |_ |_) |_ |_ |_) <;> rw[q2] at h
  ·exact h.elim
  ·exact h.elim
  ·exact h.elim
  ·exact h.elim
  ·rcases e1:f1 ρ with _ |d1 |_ <;> rw[e1] at h
   ·exact h.elim
   ·rcases e2:f2 ρ with _ |d2 |_ <;> rw[e2] at h
    ·exact h.elim
    ·rcases e3:f3 ρ with _ |d3 |_ <;> rw[e3] at h
     ·exact h.elim
     ·exact⟨my,d1,d2,d3,rfl,rfl,rfl,rfl,rfl,h⟩
     ·exact h.elim
    ·exact h.elim
   ·exact h.elim
  all_goals exact h.elim
 ·exact h.elim
theorem afz (i iy:Nat) (hN:X.N.Nodup) (hB:rZ X.base X.mg cc P) (hT:Tb [(P,qual)] X.H₀) (hcode:X.env.code= .ref cc) (Sw:FnOk X.prog X.w X.K X.mg X.base CX0 kS fS Ul Qg (spS X.prog X.w X.mg X.base kG X.K 3 q FS)) (hr:Room kS X.A) (hm:X.mg xS=some (.ref fS)) (hk:PySem.W.keepIn X.K (.ref fS)=true) (hb:Binds X.K Ul Qg [])
  (afw:∀my a c H co uy,mQ H a name qual params body scope [(y,c)]->H c=some (.frz co (.own c))->co.data= .cell (some uy)->RelV (.int my) uy->Dw X.prog X.w X.K X.mg X.base kG (GG my) q a H)
  (h1:DE X e1 f1) (h2:DE X e2 f2) (h3:DE X e3 f3)
  (hcl:closureFor scope X.env=pure [(y,c)]) (hc:X.env.cells.lookup y=some c) (hyk:X.env.scope.names.lookup y=some .cell) (hfn:X.fn y=true) (hii:i≠iy) (hnv:Vis X.env.scope name)
  (hiy:autoParam (X.N[iy]?=some y) bB._auto_1) (hi:autoParam (X.N[i]?=some name) bB._auto_1) (hl:autoParam (Loc X.env.scope name) ug._auto_1) (hq:autoParam (qualnameIn X.env name name=qual) bB._auto_1) (hd0:autoParam (params.defaults=[]) bB._auto_1) (hk0:autoParam (params.kw_defaults=[]) bB._auto_1) (ha:autoParam (annTrees params none X.env=[]) bB._auto_1)
  (hg:autoParam (Gl X xS) bB._auto_1) (hdb:autoParam ((xS ==("__debug__" :Str))=false) dM._auto_1) (hdn:autoParam ((name ==("__debug__" :Str))=false) dM._auto_1) (hdc:autoParam ((name ==("__classdict__" :Str))=false) dM._auto_1)
  (he1:autoParam (starEach [e1,e2,e3,.Name name p4] X.env=(false,eval e1 X.env)::starEach [e2,e3,.Name name p4] X.env) bB._auto_1) (he2:autoParam (starEach [e2,e3,.Name name p4] X.env=(false,eval e2 X.env)::starEach [e3,.Name name p4] X.env) bB._auto_1)
  (he3:autoParam (starEach [e3,.Name name p4] X.env=(false,eval e3 X.env)::starEach [.Name name p4] X.env) bB._auto_1) (he4:autoParam (starEach [.Name name p4] X.env=(false,eval (.Name name p4) X.env)::starEach [] X.env) bB._auto_1)
  (hpl:autoParam ((backTo pos2 (starEach [e2,e3,.Name name p4] X.env)).any (·.1)=false) bB._auto_1) (hf:autoParam (X.fn name=true\/X.env.scope.names.lookup name=some .local) uh._auto_1):
  cW X [.FunctionDef name params body [] none [] scope none name pos,.Return (some (.Call (.Name xS p) [e1,e2,e3,.Name name p4] [] pos2)) aja] (Tg i iy f1 f2 f3 FS GG):=by
 have A:=pa_cons h1 (pa_cons h2 (pa_cons h3 (pa_cons (pe_var (X:=X) (pos:=p4) hi hnv hdn hdc) pa_nil he4) he3) he2) he1
 refine PSs.imp (pss_cons (ai7 i hN hB hT hcode hcl hi hl hq hd0 hk0 ha hf) (pss_one (ps_ret (afv (iy:=iy) (p:=p) (pos:=pos2) Sw hr hg hm hk hb afw hc hyk hfn hiy A hdb he1 hpl)))) λ σ H E h=>?_
 refine bc λ zQ=>?_
 obtain⟨H0,O0,O,ρ,j,h⟩:=h
 apply zQ;clear zQ
 intro a H1 sm fh
 obtain⟨my,d1,d2,d3,en,em,q1,q2,q3,h⟩:=ady h
 ·skip
  have hil:i < X.N.length:=(List.getElem?_eq_some_iff.mp hi).1
  refine bc λ zQ=>?_
  obtain⟨v,hv,rv⟩:=j.inn.env.get iy _ em
  apply zQ;clear zQ
  have rv:v= .int my:=Rep.int (show Rep X.K O H (.int my) v from rv)
  subst rv
  ·skip
   refine bc λ zQ=>?_
   cases q4:allOf (λ x=>FS x (GG my) [d1,d2,d3]) with
   |bad=>rw[q4] at h;exact h.elim
   |err _=>rw[q4] at h;exact h.elim
   | ok d=>
    apply zQ;clear zQ
    rw[q4] at h
    have jn:In X O H1 ρ (σ.set i (some (.ref a))):=In.aor (j.inn.same sm) en
    refine⟨ρ,O,jn,?_⟩
    rw[q1]
    intro v1 H2 s2 r1
    refine⟨ρ,O,jn.same s2,?_⟩
    rw[q2]
    intro v2 H3 s3 r2
    refine⟨ρ,O,(jn.same s2).same s3,?_⟩
    rw[q3]
    intro v3 H4 s4 r3
    have jl:i < σ.length:=by rw[j.inn.len];exact hil
    refine⟨.ref a,List.getElem?_set_self jl,?_⟩
    have s14:Same H1 H4:=(s2.trans s3).trans s4
    refine⟨O,[d1,d2,d3],[v1,v2,v3],a,my,d,rfl,.cons (r1.same (s3.trans s4)) (.cons (r2.same s4) (.cons r3 .nil)),rfl,(jn.same s14).al,fh.fz λ b o u z=>s14 _ _ z,?_,afy q4,λ v' H' s' r'=>?_⟩
    ·rw[List.getElem?_set_ne hii];exact hv
    ·exact h v' H' (j.same.trans (sm.trans (s14.trans s'))) (r'.fewer j.sub)
end
end Pu
namespace Pu
open PySem PySem.Spec L2
open PyProof.Rows hiding St
noncomputable def pC (a:Addr) (o:Option HO) (T:Addr) (q:Str):Hp:=λ b=>if b=T then some (.tbl #[.str q 0]) else if b=a then o else none
theorem adz {P:Program} {w:World} {K:PySem.W.Frag} {mg mb:Str->Option Value} {k:Nat} {fa a c T:Addr} {q:Str} {fd:FuncData} {x:Str} {sp:Sp} {s₁:Shared} {vs:List Value} {ns:List Int}
  (KX:K.In s₁.heap) (hns:s₁.heap.Ns mainGlobals mg) (hb:s₁.heap.Ns builtinsNs mb) (hbb:∀x:Str,x≠"__name__"->mb x=bootBuiltins x) (hlim:s₁.heap.NoLimit) (hg:s₁.gens= #[])
  (ha:s₁.heap.get? a=some {cls:= .type "list",data:= .seq vs.toArray}) (hi:IntsAre vs ns) (hl:ns.length<=sizeLine) (hr:Room k callerA)
  (hC:PySem.W.CodeHd s₁.heap c T) (hT:s₁.heap.get? T=some (PySem.W.tabObj #[])) (hnt:PySem.W.noTabs K=true)
  (hbm:∃bm ob,mg "__builtins__" =some (.ref bm)/\bm≠builtinsNs/\s₁.heap.get? bm=some ob/\ob.cls= .type "module"/\ob.dict=some builtinsNs/\ob.data= .plain)
  (F:∀base:Heap,K.In base->base.Ns mainGlobals mg->rZ base mg c T->FnOk P w K mg base CX0 k fa fd [x] sp) (hbind:∀(s:Shared) (u:Value),BindsTo s fd ⟨[u],[]⟩ [(x,u)])
  (hsp:∀H:Hp,Tb [(T,q)] H->SqL K H a (ns.map V.int)->sp [.ref a] H (λ v Z=>v= .bl true) λ Z Z Z=>False):
  codeAny (model P w) callerA (.call (.ref fa) ⟨[.ref a],[]⟩) (λ r s'=>r= .ok (.ret (.bool true))/\OldK s₁.heap s'.heap/\s'.os=s₁.os/\AllBare s'.gens) s₁:=by
 have rv:=vals_ints hi
 have lenV:=hi.length
 have aT:a≠T:=λ z=>by rw[z,hT] at ha;(injection ha with aH;injection aH with cV wV zc3 zc4;injection cV)
 have core : ∀o:Option HO,(o=none\/o=some (.frz {cls:= .type "list",data:= .seq vs.toArray} (.lst (ns.map V.int))))->SqL K (pC a o T q) a (ns.map V.int)->(o≠none->K.lookup a=none)->
   codeAny (model P w) callerA (.call (.ref fa) ⟨[.ref a],[]⟩) (λ r s'=>r= .ok (.ret (.bool true))/\OldK s₁.heap s'.heap/\s'.os=s₁.os/\AllBare s'.gens) s₁:=by
  intro o ho hS hK
  have hH:∀b u,pC a o T q b=some u->(b=T/\u= .tbl #[.str q 0])\/(b=a/\u= .frz {cls:= .type "list",data:= .seq vs.toArray} (.lst (ns.map V.int))/\o≠none):=λ b u z=>by
   unfold pC at z
   by_cases h1:b=T
   ·rw[if_pos h1] at z;(injection z with aH;subst aH);exact .inl ⟨h1,rfl⟩
   ·rw[if_neg h1] at z
    by_cases h2:b=a
    ·rw[if_pos h2] at z
     rcases ho with ho |ho
     ·rw[ho] at z;injection z
     ·rw[ho] at z;(injection z with aH;subst aH);exact .inr ⟨h2,rfl,by rw[ho];simp⟩
    ·rw[if_neg h2] at z;injection z
  have hok:HOk P w (pC a o T q) s₁.heap:=λ b u z=>by
   rcases hH b u z with⟨rfl,rfl⟩ |⟨rfl,rfl,_⟩
   ·exact⟨#[],hT,trivial,λ p cv y=>by injection y⟩
   ·exact⟨ha,by rw[List.length_map];exact hl,vs,_,rv,ha⟩
  have tb:Tb [(T,q)] (pC a o T q):=λ p hp=>by
   have e:p=(T,q):=by simpa using hp
   subst e
   exact⟨#[.str q 0],0,if_pos rfl,rfl⟩
  have base_of:∀{b:Addr} {u:Obj},s₁.heap.get? b=some u->pC a o T q b=none->(hidT s₁.heap (pC a o T q)).get? b=some u:=λ e n=>hidT_get e n
  have free:∀{b:Addr} {u:Obj},s₁.heap.get? b=some u->u.cls≠.type "list"->u.cls≠.none->pC a o T q b=none:=λ {b u} e n1 n2=>by
   cases z:pC a o T q b with
   |none=>rfl
   | some y=>
    rcases hH b y z with⟨rfl,_⟩ |⟨rfl,_,_⟩
    ·rw[hT] at e;(injection e with aH;subst aH);exact absurd rfl n2
    ·rw[ha] at e;(injection e with aH;subst aH);exact absurd rfl n1
  have am3:∀{b:Addr} {u:Obj} {es:Array DictEntry} {ep:Nat},s₁.heap.get? b=some u->u.data= .dict es ep->pC a o T q b=none:=λ {b u es ep} e d=>by
   cases z:pC a o T q b with
   |none=>rfl
   | some y=>
    rcases hH b y z with⟨rfl,_⟩ |⟨rfl,_,_⟩
    ·rw[hT] at e;(injection e with aH;subst aH);injection d
    ·rw[ha] at e;(injection e with aH;subst aH);injection d
  have nsK:∀{b:Addr} {m:Str->Option Value},s₁.heap.Ns b m->(hidT s₁.heap (pC a o T q)).Ns b m:=λ {b m} ⟨u,es,ep,e,d,r⟩=>⟨u,es,ep,base_of e (am3 e d),d,r⟩
  have hKb:K.In (hidT s₁.heap (pC a o T q)):=λ b u e=>base_of (KX b u e) (by
   cases z:pC a o T q b with
   |none=>rfl
   | some y=>
    rcases hH b y z with⟨rfl,_⟩ |⟨rfl,_,no⟩
    ·have e1:=KX b u e
     rw[hT] at e1;(injection e1 with aH;subst aH)
     have h2:=List.all_eq_true.mp hnt (b,PySem.W.tabObj #[]) (PySem.W.mem_of_lookupK e)
     exact absurd (show false=true from h2) Bool.false_ne_true
    ·rw[hK no] at e;injection e)
  have hM:Mod K mg (hidT s₁.heap (pC a o T q)):=⟨hKb,nsK hns,⟨mb,nsK hb,hbb⟩,let ⟨mc,h1,h2⟩:=hlim;⟨mc,nsK h1,h2⟩⟩
  have nb:rZ (hidT s₁.heap (pC a o T q)) mg c T:=by
   refine⟨?_,?_⟩
   ·obtain⟨oc,v,file,tf,flags,tg,inF,text,tt,e1,e2,r⟩:=hC
    exact⟨oc,v,file,tf,flags,tg,inF,text,tt,base_of e1 (free e1 (by rw[e2];nofun) (by rw[e2];nofun)),e2,r⟩
   ·obtain⟨bm,ob,b1,b2,b3,b4,r⟩:=hbm
    exact⟨bm,ob,b1,b2,base_of b3 (free b3 (by rw[b4];nofun) (by rw[b4];nofun)),b4,r⟩
  have e0:Env0 P w K mg (hidT s₁.heap (pC a o T q)) callerA [] s₁ (pC a o T q):=⟨rfl,hM,λ b o e=>of_hidT e,z0f (hidT_size _ _),trivial,λ b hb=>absurd (show b∈([]:List Addr) from hb) (by simp),hok,.of_eq hg⟩
  refine codeAny_mono ((F _ hKb (nsK hns) nb).run callerA [] s₁ (pC a o T q) ⟨[.ref a],[]⟩ [.ref a] [.ref a] _ _ hr e0 (hbind s₁ (.ref a)) (.cons rfl .nil) (hsp _ tb hS)) λ r s' h=>?_
  cases r with
  |error e=>exact h.elim
  | ok fl =>
   cases fl with
   |next=>exact False.elim h
   |brk=>exact False.elim h
   |cont=>exact False.elim h
   | ret u =>
    obtain⟨v,H',os,bare,un,hok',r',z⟩:=h
    have z:v= .bl true:=z
    subst z
    obtain rfl:u=Value.bool true:=r'
    have each:∀b o,s₁.heap.get? b=some o->s'.heap.get? b=some o\/(b=T/\o=PySem.W.tabObj #[]/\∃qs,s'.heap.get? b=some (PySem.W.tabObj qs)):=λ b ob e=>by
     cases z:pC a o T q b with
     |none=>exact .inl (un.keep b ob e z (by intro y;exact absurd (show b∈([]:List Addr) from y) (by simp)) (by simp))
     | some y=>
      rcases hH b y z with⟨rfl,rfl⟩ |⟨rfl,rfl,_⟩
      ·obtain⟨more,z2⟩:=un.tbls _ _ z
       obtain⟨qs,e2,_⟩:=hok' _ _ z2
       rw[hT] at e;(injection e with aH;subst aH)
       exact .inr ⟨rfl,rfl,qs,e2⟩
      ·have z2:=un.frzs _ _ _ z
       obtain⟨e1,_⟩:=hok _ _ z
       obtain⟨e2,_⟩:=hok' _ _ z2
       rw[e] at e1;(injection e1 with aH;subst aH)
       exact .inl e2
    refine⟨rfl,⟨λ b ob e=>?_,λ b ob e=>?_⟩,os,bare⟩
    ·rcases each b ob e with z |⟨rfl,rfl,qs,z⟩
     ·exact .inl z
     ·exact .inr (.inl ⟨(hC.tab hT).isCodeTable,rfl,#[],qs,rfl,by rw[Array.empty_append];exact z⟩)
    ·rcases each b ob e with z |⟨rfl,rfl,qs,z⟩
     ·exact⟨_,z⟩
     ·exact⟨_,z⟩
 cases hk:K.lookup a with
 | some o=>
  have e:=KX a o hk
  rw[ha] at e
  (injection e with aH;subst aH)
  exact core none (.inl rfl) (.inr ⟨_,vs.toArray,_,hk,rfl,rfl,rfl,by rw[List.size_toArray,lenV];exact hl,by simpa using rv⟩) λ z=>absurd rfl z
 |none=>exact core _ (.inr rfl) (.inl (.inr ⟨_,(if_neg aT).trans (if_pos rfl)⟩)) λ Z=>hk
noncomputable def Dy (K:PySem.W.Frag) (mg:Str->Option Value) (x:Str) (c:Addr):Prop:=∀f oc od fd osl,mg x=some (.ref f)->K.lookup f=some ⟨oc,od,.func fd,osl⟩->fd.code= .ref c
theorem am4 {l:PySem.W.OpenLaw} {n k:Nat} {p:Program} {loose:List Str} {XP:(Str->Option Value)->Heap->Prop} {YP:World->Heap->Prop} {d:DefRec} {K:Params->PySem.W.Frag} {x y q:Str} {FL:List D->R D}
  (hn:l.most=some n) (hn2:n<=sizeLine) (hdf:d.params.defaults=[]) (hr:Room k callerA)
  (hY:∀(w:World) (h:Heap),YP w h->(K w.params).In h) (hnt:∀w:World,PySem.W.noTabs (K w.params)=true) (hrec:∃dy∈recsOf p,dy.name=y)
  (F:∀(w:World) (mg:Str->Option Value) (fa:Addr) (h:Heap),(K w.params).In h->h.Ns mainGlobals mg->mg d.name=some (.ref fa)->
   ∃ fd:FuncData,(∀(s:Shared) (u:Value),BindsTo s fd ⟨[u],[]⟩ [(x,u)])/\
    ∀(base:Heap) (c T:Addr),(K w.params).In base->base.Ns mainGlobals mg->rZ base mg c T->Dy (K w.params) mg y c->FnOk l.prog w (K w.params) mg base CX0 k fa fd [x] (spT [(T,q)] (K w.params) 1 FL))
  (hL:∀ns:List Int,ns.length<=n->FL [.lst (ns.map D.int)]= .ok (.bl true)):
  PySem.W.WalkO p loose XP YP l.row.toRowW d [] (λ f vs=>PySem.call f vs):=by
 refine Att.attach_call hn hdf λ w s₀ s₁ mg mb fa o pm cd doc a vs ns G Y ho hd hcd hmg hobj hints hlen hg=>?_
 have KX:=hY w _ Y
 refine bc λ zQ=>?_
 obtain⟨fd,hb,hF⟩:=F w mg fa _ KX G.T.g hmg
 obtain⟨dy,hdy,rfl⟩:=hrec
 obtain⟨f',o',fd',c,T,t1,t2,t3,t4,t5,t6⟩:=G.T.tab dy hdy
 apply zQ;clear zQ
 have hci:Dy (K w.params) mg dy.name c:=λ f oc od fd2 osl e1 e2=>by
  rw[t1] at e1;(injection e1 with aH;injection aH with cV;subst cV)
  have e3:=KX _ _ e2
  rw[t2] at e3;(injection e3 with aH;subst aH)
  cases t3
  exact t4
 exact adz (q:=q) KX G.T.g G.T.b G.T.builtins G.T.nolimit hg hobj hints (z0b hlen hn2) hr (PySem.W.CodeHd.of t5 t6) t6.2 (hnt w) G.T.bmain (λ base h1 h2 h3=>hF base c T h1 h2 h3 hci) hb λ H tb hS=>⟨tb,sp_law hS (hL ns hlen)⟩
end Pu
namespace Pu
open PySem PySem.Spec L2
open PyProof.Rows hiding St
section
variable {X:Cx} {e lo hi:Expr} {f g:aq->R D} {fl fu:aq->R (Option Int)} {pos p2 p3 p4:Pos}
noncomputable def ahi (d:D) (lo hi:Option Int):R D:=match d with
 | .lst ds=> .ok (.lst (lg ds lo hi))
 |_=> .bad
noncomputable def qK (f:aq->R D) (fl fu:aq->R (Option Int)):aq->R D:=λ ρ=>(f ρ).bind λ d=>(fl ρ).bind λ l=>(fu ρ).bind λ u=>ahi d l u
theorem Qh {lo hi:Option Expr} (he:DE X e f) (hl:Z6 X lo fl) (hu:Z6 X hi fu):DE X (.Subscript e (.Slice lo hi none p2) pos) (qK f fl fu):=by
 refine PE.imp (pe_slice sl_list he hl hu) λ σ H Q h=>?_
 obtain⟨ρ,O,j,h⟩:=h
 refine go j h λ d v H1 e1 s1 r1 j1 h1=>?_
 refine go j1 h1 λ l l' H2 e2 s2 r2 j2 h2=>?_
 refine go j2 h2 λ u u' H3 e3 s3 r3 j3 h3=>?_
 have r2:l=l':=r2
 have r3:u=u':=r3
 subst r2 r3
 cases d with
 | lst ds=>
  have r1':=(r1.same s2).same s3
  obtain⟨a,xs,rfl,hq,hn,rs⟩:=r1'.lst
  have hlen:=rs.length
  refine⟨a,xs,rfl,hq,λ p hp=>?_⟩
  refine h3 _ _ (Same.upd hp) (Rep.uI hp (j3.Dh hp) ?_)
  unfold lg cutV
  rw[hlen]
  exact (rs.drop _).take _
 |_=>exact h3.elim
theorem ahj {kk} {te:TE} (he:PE X e te):PE X (.Subscript e (.Slice none none (some (.UnaryOp .USub (.Constant (.int 1) kk p3) p4)) p2) pos) (λ σ H Q=>te σ H λ x H1=>∃a xs,x= .ref a/\SqL X.K H1 a xs/\∀p,H1 p=none->Q (.ref p) (upd H1 p (.lst xs.reverse))):=by
 intro pins s σ H Q I h
 refine Subscript_ (thn (he pins s σ H _ I h) λ v s1 bY=>?_)
 refine bc λ zQ=>?_
 obtain⟨x,H1,I1,r1,q1⟩:=bY
 obtain⟨a,xs,rfl,hq,q⟩:=q1
 apply zQ;clear zQ
 obtain rfl:=r1
 refine wpAny_Slice ?_
 rw[evalPart_none,evalPart_some]
 refine wpAny_pure (wpAny_pure ?_)
 refine thn (pe_un (X:=X) un_neg pe_int pins s1 σ H1 (λ y H2=>y= .int (-1)/\H2=H1) I1 ⟨1,rfl,rfl,rfl⟩) λ vs s2 bY=>?_
 refine bc λ zQ=>?_
 obtain⟨y,H2,I2,r2,ey,eH⟩:=bY
 apply zQ;clear zQ
 subst ey
 subst eH
 refine bc λ zQ=>?_
 obtain⟨t,rfl⟩:=r2
 have I4:Inv X pins σ H2 {s2 with heap:=s2.heap.push {cls:= .type "slice",data:= .fields #[.none,.none,.int (-1) t]}}:=I2.kept (t':=s2.toks) λ b ob q=>Heap.get?_push_of_some _ q
 obtain⟨its,rv,ht,hz⟩:=I4.list hq
 apply zQ;clear zQ
 have hlen:=rv.length
 show wpAny (model X.prog X.w) X.A (subscriptTail e (.Slice none none (some (.UnaryOp .USub (.Constant (.int 1) kk p3) p4)) p2) (.ref a) (.ref s2.heap.objs.size)) (EP X pins σ Q) X.xe {s2 with heap:=s2.heap.push {cls:= .type "slice",data:= .fields #[.none,.none,.int (-1) t]}}
 refine tail_any (ops:=[.ref a,.ref s2.heap.objs.size]) ht.isList.typeIs slot_list_getitem.lookup (wpAny_getItem_list_slice ht.isList (Heap.IsSliceOf.new ..) .none .none (.int (-1) t) (by simp) ?_ (by rw[List.size_toArray];exact PB hlen hz)) (by with_unfolding_all rfl)
 rw[PySem.W.krv_pick]
 refine⟨.ref _,_,I4.laid (t':=s2.toks) (o:= .lst xs.reverse) (λ b ob q=>Heap.get?_push_of_some _ q) (z0g _) ?_,rfl,q _ (I4.hok.fresh (z0g _))⟩
 exact⟨by rw[List.length_reverse];exact hz,its.reverse,0,Vals.rev rv,(by have e:its.toArray.toList.reverse=its.reverse:=(by simp);rw[e];exact Heap.get?_push_size _ rfl)⟩
noncomputable def am5:D->R D
 | .lst ds=> .ok (.lst ds.reverse)
 |_=> .bad
noncomputable def Ti (f:aq->R D):aq->R D:=λ ρ=>(f ρ).bind am5
theorem ahk {kk} (he:DE X e f):DE X (.Subscript e (.Slice none none (some (.UnaryOp .USub (.Constant (.int 1) kk p3) p4)) p2) pos) (Ti f):=by
 refine PE.imp (ahj he) λ σ H Q h=>?_
 obtain⟨ρ,O,j,h⟩:=h
 refine go j h λ d v H1 e1 s1 r1 j1 h1=>?_
 cases d with
 | lst ds=>
  obtain⟨a,xs,rfl,hq,hn,rs⟩:=r1.lst
  exact⟨a,xs,rfl,hq,λ p hp=>h1 _ _ (Same.upd hp) (Rep.uI hp (j1.Dh hp) rs.reverse)⟩
 |_=>exact h1.elim
noncomputable def ixO (i:Nat) (f:aq->R D):aq->R D:=λ ρ=>match ρ[i]? with
 |some (some (.lst ds))=>(f ρ).bind λ d=>bZ (.lst ds) d
 |_=> .bad
theorem ajb (i:Nat) {x:Str} {px:Pos} (hb:DE X e f) (hs:autoParam (PlainIx e) aiC._auto_1) (hN:autoParam (X.N[i]?=some x) bB._auto_1) (hv:autoParam (Vis X.env.scope x) ZM._auto_1)
  (hd:autoParam ((x ==("__debug__" :Str))=false) dM._auto_1) (hcd:autoParam ((x ==("__classdict__" :Str))=false) dM._auto_1):DE X (.Subscript (.Name x px) e pos) (ixO i f):=by
 refine PE.imp (pe_ix ix_seq (pe_var hN hv hd hcd) hb hs) λ σ H Q h=>?_
 obtain⟨ρ,O,j,h⟩:=h
 unfold ixO at h
 rcases q:ρ[i]? with _ |_ |(_ |ds |_ |_) <;> rw[q] at h
 ·exact h.elim
 ·exact h.elim
 ·exact h.elim
 ·dsimp only at h
  obtain⟨v,hv1,a,xs,rfl,hO,hH,rs⟩:=j.env.get i _ q
  refine⟨.ref a,hv1,?_⟩
  refine go j h λ d y H1 e1 s1 r1 j1 h1=>?_
  cases d with
  | int k=>
   have h':good X (rD X) O (match L2.atI ds k with |some d=>R.ok d |none=>R.bad) σ H1 Q:=h1
   cases e2:L2.atI ds k with
   |none=>rw[e2] at h';exact h'.elim
   | some d=>
    rw[e2] at h'
    obtain⟨v,e3,rv⟩:=(rs.same s1).atI e2
    exact .inl ⟨a,xs,k,v,rfl,r1.int,SqL.of (s1 _ _ hH),e3,fin h' rv⟩
  |_=>exact h1.elim
 ·exact h.elim
 ·exact h.elim
end
section
variable {X:Cx} {pos:Pos}
noncomputable def M8 (i k:Nat):aq->So:=λ ρ=>match ρ[i]?,ρ[k]? with
 |some (some (.lst ds)),some (some (.lst es))=>if ds.length < 1000000 then .nx ((ρ.set i (some (.lst (ds++[.lst es])))).set k (some (.val (.lst es)))) else .bad
 |_,_=> .bad
theorem At.give {H0 H:Hp} {O0 O:Addr->Prop} {ρ:aq} {σ:St} (j:At X H0 O0 O H ρ σ) {k:Nat} {es:List D} {b:Addr} (hk:ρ[k]?=some (some (.lst es))) (hb:σ[k]?=some (some (.ref b))):
  At X H0 O0 (λ a=>O a/\a≠b) H (ρ.set k (some (.val (.lst es)))) σ/\gO X.K O H (λ a=>O a/\a≠b) H:=by
 refine bc λ zQ=>?_
 obtain⟨hH0,hO0⟩:=j.mine k _ b hk rfl hb
 have rc:gO X.K O H (λ a=>O a/\a≠b) H:=⟨⟨λ Z Z z=>z,λ Z Z Z z=>z⟩,λ a z=> .inl z.1,λ Z z=>z⟩
 have hkl:k < ρ.length:=(List.getElem?_eq_some_iff.mp hk).1
 obtain⟨v,hv,b',xs,e1,hO,hH,rs⟩:=j.inn.env.get k _ hk
 apply zQ;clear zQ
 rw[hb] at hv;(injection hv with aH;injection aH with cV;subst cV);(injection e1 with aH;subst aH)
 refine⟨⟨j.same,j.gY.trans rc,λ a z=>⟨j.sub a z,λ e=>hO0 (e▸z)⟩,⟨⟨λ m e q=>?_,λ m l e e' u hml hm hl om ol sm sl=>?_⟩,λ a z=>j.inn.al a z.1,j.inn.len,by rw[List.length_set];exact j.inn.sZ⟩,λ m e a q ho hs=>?_⟩,rc⟩
 ·by_cases hmk:m=k
  ·subst hmk
   rw[List.getElem?_set_self hkl] at q;(injection q with aH;injection aH with cV;subst cV)
   exact⟨_,hb,uG (SqL.of hH) (λ z=>z.2 rfl) (rs.go rc)⟩
  ·rw[List.getElem?_set_ne (Ne.symm hmk)] at q
   refine bc λ zQ=>?_
   obtain⟨v,q1,q2⟩:=j.inn.env.get m e q
   apply zQ;clear zQ
   refine⟨v,q1,?_⟩
   have nb:e.own=true->v≠.ref b:=λ oe z=>by subst z;exact j.inn.env.sep m k _ _ _ hmk q hk oe rfl q1 hb
   refine bc λ zQ=>?_
   cases e with
   |val d=>apply zQ;clear zQ;exact Rep.go rc q2
   |obj t=>apply zQ;clear zQ;exact q2
   | lst ds=>
    apply zQ;clear zQ
    refine bc λ zQ=>?_
    obtain⟨a,ys,e2,o2,h2,r2⟩:=q2
    apply zQ;clear zQ
    exact⟨a,ys,e2,⟨o2,λ z=>nb rfl (by rw[e2,z])⟩,h2,r2.go rc⟩
   | HF kvs=>
    apply zQ;clear zQ
    refine bc λ zQ=>?_
    obtain⟨a,ys,e2,o2,h2,kk,r2⟩:=q2
    apply zQ;clear zQ
    exact⟨a,ys,e2,⟨o2,λ z=>nb rfl (by rw[e2,z])⟩,h2,kk,r2.go rc⟩
 ·have un:∀{m:Nat} {x:Ent},(ρ.set k (some (.val (.lst es))))[m]?=some (some x)->x.own=true->ρ[m]?=some (some x):=λ {m x} h ho=>by
   by_cases hmk:m=k
   ·subst hmk;rw[List.getElem?_set_self hkl] at h;(injection h with aH;injection aH with cV;subst cV);injection ho
   ·rw[List.getElem?_set_ne (Ne.symm hmk)] at h;exact h
  exact j.inn.env.sep m l e e' u hml (un hm om) (un hl ol) om ol sm sl
 ·by_cases hmk:m=k
  ·subst hmk;rw[List.getElem?_set_self hkl] at q;(injection q with aH;injection aH with cV;subst cV);injection ho
  ·rw[List.getElem?_set_ne (Ne.symm hmk)] at q;exact j.mine m e a q ho hs
theorem afA {X:Cx} {H0 H:Hp} {O0 O:Addr->Prop} {E:Ends} {ρ:aq} {i k:Nat} (h:sI X H0 O0 O H E (M8 i k ρ)):∃ds es,ρ[i]?=some (some (.lst ds))/\ρ[k]?=some (some (.lst es))/\sI X H0 O0 O H E (if ds.length < 1000000 then .nx ((ρ.set i (some (.lst (ds++[.lst es])))).set k (some (.val (.lst es)))) else .bad):=by
 unfold M8 at h
 rcases q1:ρ[i]? with _ |_ |(_ |ds |_ |_) <;> rw[q1] at h
 ·exact h.elim
 ·exact h.elim
 ·exact h.elim
 ·rcases q2:ρ[k]? with _ |_ |(_ |es |_ |_) <;> rw[q2] at h
  ·exact h.elim
  ·exact h.elim
  ·exact h.elim
  ·exact⟨ds,es,rfl,rfl,h⟩
  ·exact h.elim
  ·exact h.elim
 ·exact h.elim
 ·exact h.elim
theorem ahl (i k:Nat) {x y:Str} {px py apos cpos:Pos} (hik:i≠k) (hN:autoParam (X.N[i]?=some x) bB._auto_1) (hNk:autoParam (X.N[k]?=some y) bB._auto_1) (hv:autoParam (Vis X.env.scope x) ZM._auto_1) (hvk:autoParam (Vis X.env.scope y) ZM._auto_1)
  (hd:autoParam ((x ==("__debug__" :Str))=false) dM._auto_1) (hcd:autoParam ((x ==("__classdict__" :Str))=false) dM._auto_1) (hdk:autoParam ((y ==("__debug__" :Str))=false) dM._auto_1) (aos:autoParam ((y ==("__classdict__" :Str))=false) dM._auto_1)
  (hbase:autoParam (attributeBase (.Name x px) "append" X.env (eval (.Name x px) X.env)=eval (.Name x px) X.env) bB._auto_1)
  (hfew:((backTo cpos (starEach [.Name y py] X.env)).all (λ x=> !x.1) && (backToKw cpos (keywordEach [] X.env)).all (λ x=>x.1.isSome)
   && decide ([Expr.Name y py].length+([]:List Keyword).length+(if ([]:List Keyword).isEmpty then 0 else 1) < 30))=true:=by rfl)
  (hline:autoParam ((apos.endLine ==cpos.line)=true) bB._auto_1) (hs1:autoParam (starEach [.Name y py] X.env=(false,eval (.Name y py) X.env)::starEach [] X.env) bB._auto_1) (hplain:autoParam ((backTo cpos (starEach [] X.env)).any (·.1)=false) bB._auto_1)
  (hs:autoParam (swapsWith (.Call (.Attribute (.Name x px) "append" apos) [.Name y py] [] cpos) none pos.line X.env=pure false) bB._auto_1):
  DS X (.Expr (.Call (.Attribute (.Name x px) "append" apos) [.Name y py] [] cpos) pos) (M8 i k):=by
 refine PS.imp (ps_expr (pe_bm PySem.F.plainAttrs_list PySem.F.slot_list_append PySem.F.type_list_append mt_append (pe_var hN hv hd hcd) (pa_cons (pe_var hNk hvk hdk aos) pa_nil hs1) hbase hfew hline hs1 hplain) hs) λ σ H E h=>?_
 refine bc λ zQ=>?_
 obtain⟨H0,O0,O,ρ,j,h⟩:=h
 apply zQ;clear zQ
 obtain⟨ds,es,q1,q2,h⟩:=afA h
 ·skip
  by_cases hl:ds.length < 1000000
  ·rw[if_pos hl] at h
   refine bc λ zQ=>?_
   obtain⟨v,hv1,a,xs,rfl,hO,hH,rs⟩:=j.inn.env.get i _ q1
   obtain⟨v,hv2,b,ys,rfl,hO2,hH2,J3⟩:=j.inn.env.get k _ q2
   apply zQ;clear zQ
   have hab:a≠b:=λ z=>j.inn.env.sep i k _ _ _ hik q1 q2 rfl rfl hv1 (by rw[z];exact hv2)
   refine⟨.ref a,hv1,.inl ⟨rfl,xs,SqL.of hH⟩,.ref b,hv2,?_⟩
   have hlen:=rs.length
   refine⟨a,xs,.ref b,rfl,rfl,hH,by have:=jO;exact aio this hl hlen,?_⟩
   refine bc λ zQ=>?_
   obtain⟨j1,r1⟩:=j.give q2 hv2
   apply zQ;clear zQ
   have q1':(ρ.set k (some (.val (.lst es))))[i]?=some (some (.lst ds)):=by rw[List.getElem?_set_ne (Ne.symm hik)];exact q1
   refine bc λ zQ=>?_
   obtain⟨j2,r2⟩:=j1.chg (o:= .lst (xs++[.ref b])) (en:= .lst (ds++[.lst es])) q1' rfl hv1 ⟨hO,hab⟩ hH trivial rfl λ r=>⟨a,xs++[.ref b],rfl,⟨hO,hab⟩,upd_same,by
    have z1:aZ X.K (λ c=>O c/\c≠b) H (ds++[.lst es]) (xs++[.ref b]):=(rs.go r1).append (.cons (uG (SqL.of hH2) (λ z=>z.2 rfl) (J3.go r1)) .nil)
    exact z1.go r⟩
   apply zQ;clear zQ
   rw[List.set_comm _ _ (Ne.symm hik)] at j2
   exact h _ _ _ j2 (r1.trans r2)
  ·rw[if_neg hl] at h;exact h.elim
end
section
open PySem
theorem aa0 (l b:Addr) (items:Array Value) (n:Nat) (items2:Array Value) (n2:Nat) (dd:Option Addr) (sl:Array (Option Value)) (hs0:¬(!items.isEmpty && Builtin.List.listTooLong (items.size+items2.size))=true) (hs1:items.size<=sizeLine) (hs2:items.size+items2.size<=sizeLine+1):
  Meets (Builtin.«list.__iadd__» ⟨[.ref l,.ref b],[]⟩) (λ Z R s=>s.heap.get? l=some {cls:= .type "list",dict:=none,data:= .seq items n,slots:= #[]}/\s.heap.get? b=some {cls:= .type "list",dict:=dd,data:= .seq items2 n2,slots:=sl}/\R (.ok (.ret (Value.ref l))) {s with heap:=s.heap.update l (Obj.mapSeq λ x=>x++items2),toks:=s.toks}):=
 .of_wp λ prog w A R s h=>by
  obtain⟨hp,g,d,tk,os⟩:=s;obtain⟨hl,hb,h⟩:=h;have f1:=AutoSeq1.idx_int;have f2:=AutoSeq1.sub_tuple_tuple;have f3:=AutoSeq1.sub_list_list;have f4:=AutoSeq1.sub_tuple_list;have f5:=AutoSeq1.sub_list_tuple;
  have hz':(items++items2).size<=sizeLine+1:=by rw[Array.size_append];exact hs2
  wp_walk using (wpAny_updateSeq hl rfl (hz:=hs1) (_hz':=hz')),wpAny_loadPart' hl,wpAny_loadPart' hb;exact⟨_,rfl,h⟩
end
section
variable {X:Cx} {e:Expr} {f:aq->R D} {pos:Pos}
theorem ahm:PIp X .Add (λ x y H Q=>∃a b xs ys,x= .ref a/\y= .ref b/\H a=some (.lst xs)/\SqL X.K H b ys/\xs.length+ys.length<=1000000/\Q (.ref a) (upd H a (.lst (xs++ys)))):=by
 intro pins s σ H x y v u Q I rx ry h
 refine bc λ zQ=>?_
 obtain⟨a,b,xs,ys,rfl,rfl,ha,hb,hz,q⟩:=h
 apply zQ;clear zQ
 obtain rfl:=rx
 obtain rfl:=ry
 refine bc λ zQ=>?_
 obtain⟨its,n,r,ho,hzl⟩:=I.lst ha
 obtain⟨its2,r2,p2,hz2⟩:=I.list hb
 obtain⟨⟨cls2,dd2,data2,sl2⟩,ho2,hc2,n2,hd2⟩:=id p2.isList
 apply zQ;clear zQ
 simp only at hc2 hd2
 subst hc2 hd2
 have l1:=r.length
 have l2:=r2.length
 have hsl:=jO
 have hT:s.TypeIs (.ref a) "list" :=⟨_,ho,rfl⟩
 have hT2:s.TypeIs (.ref b) "list" :=⟨_,ho2,rfl⟩
 unfold inplaceOp
 refine wpAny_holding ?_
 have hfi:fillsInplaceSlot (.type "list") "add" (Operator.Add == .Add)=pure false:=by
  unfold fillsInplaceSlot
  show (typeLookup (.type "list") (dunderI "add") >>=λ fi=>pure (fi.isSome && !isSeqSlot fi))=pure false
  rw[PySem.F.slot_list_iadd.lookup,pure_bind,show isSeqSlot (some (.builtin "list.__iadd__"))=true from by decide +kernel];rfl
 refine wpAny_bind (wpAny_typeOf hT (wpAny_bind (wpAny_of_eq hfi ?_)))
 show wpAny _ _ (if false=true then _ else _) _ _ s
 rw[if_neg Bool.false_ne_true]
 refine wpAny_bind (binaryOp1_none (nm:= "add") hT hT2 PySem.noFill_list_add ?_)
 refine wpAny_bind (wpAny_of_eq (PySem.seqSlot_of (T:= "list") (name:=dunderI "add") (id:= "list.__iadd__") PySem.F.slot_list_iadd.lookup (by decide +kernel)) ?_)
 refine wpAny_bind (wpAny_rule ?_)
 refine call_meets PySem.F.slot_list_iadd hT PySem.F.entry_list_iadd (PySem.F.args_list_iadd_2 _ _) (aa0 a b its.toArray n its2.toArray n2 dd2 sl2 ?_ (by rw[List.size_toArray];exact PB l1 hzl) (by rw[List.size_toArray,List.size_toArray];exact akp hsl hz l1 l2)) ⟨ho,ho2,?_⟩
 ·rw[List.size_toArray,List.size_toArray]
  have:Builtin.List.listTooLong (its.length+its2.length)=false:=by unfold Builtin.List.listTooLong;exact decide_eq_false (by exact akq hsl hz l1 l2)
  rw[this];simp
 ·refine⟨.ref a,upd H a (.lst (xs++ys)),I.lset (its':=its++its2) ha ho (by simp) (r.append r2) (by rw[List.length_append];exact akr hsl hz),rfl,q⟩
noncomputable def Ji (i:Nat) (f:aq->R D):aq->So:=λ ρ=>match ρ[i]? with
 | some (some (.lst ds))=>nP (PN (f ρ)) ρ λ d=>match d with
  | .lst es=>if ds.length+es.length<=1000000 then .nx (ρ.set i (some (.lst (ds++es)))) else .bad
  |_=> .bad
 |_=> .bad
theorem aaj (i:Nat) {x:Str} {pos':Pos} (hN:X.N.Nodup) (he:DE X e f) (hi:autoParam (X.N[i]?=some x) bB._auto_1) (hx:autoParam (Loc X.env.scope x) ug._auto_1)
  (hf:autoParam (X.fn x=true\/X.env.scope.names.lookup x=some .local) uh._auto_1):DS X (.AugAssign (.Name x pos') .Add e pos) (Ji i f):=by
 refine PS.imp (ps_aug hN hi hx he ahm hf) λ σ H E h=>?_
 refine bc λ zQ=>?_
 obtain⟨H0,O0,O,ρ,j,h⟩:=h
 apply zQ;clear zQ
 unfold Ji at h
 rcases q:ρ[i]? with _ |_ |(_ |ds |_ |_) <;> rw[q] at h
 ·exact h.elim
 ·exact h.elim
 ·exact h.elim
 ·dsimp only at h
  refine bc λ zQ=>?_
  obtain⟨v,hv1,a,xs,rfl,hO,hH,rs⟩:=j.inn.env.get i _ q
  apply zQ;clear zQ
  refine⟨.ref a,hv1,ρ,O,j.inn,?_⟩
  unfold nP at h
  cases e1:f ρ with
  |bad=>rw[e1] at h;exact h.elim
  |err c=>rw[e1] at h;exact h.elim
  | ok d =>
   rw[e1] at h
   intro w H1 s1 rw1
   refine bc λ zQ=>?_
   cases d with
   | lst es=>
    apply zQ;clear zQ
    have h:sI X H0 O0 O H E (if ds.length+es.length<=1000000 then .nx (ρ.set i (some (.lst (ds++es)))) else .bad):=h
    by_cases hl:ds.length+es.length<=1000000
    ·rw[if_pos hl] at h
     have j1:=j.grow s1
     refine bc λ zQ=>?_
     obtain⟨b,ys,rfl,hb,hnb,J3⟩:=rw1.lst
     apply zQ;clear zQ
     have rs1:=rs.same s1
     have hH1:=s1 _ _ hH
     refine⟨a,b,xs,ys,rfl,rfl,hH1,hb,by rw[<-rs1.length,<-J3.length];exact hl,?_⟩
     obtain⟨j2,r2⟩:=j1.chg (o:= .lst (xs++ys)) (en:= .lst (ds++es)) q rfl hv1 hO hH1 trivial rfl λ r=>⟨a,xs++ys,rfl,hO,upd_same,(rs1.append J3).go r⟩
     have eσ:σ.set i (some (V.ref a))=σ:=by
      apply List.ext_getElem?
      intro m
      by_cases hm:m=i
      ·subst hm;rw[List.getElem?_set_self (List.getElem?_eq_some_iff.mp hv1).1,hv1]
      ·rw[List.getElem?_set_ne (Ne.symm hm)]
     rw[eσ]
     exact h _ _ _ j2 ((Same.gY s1).trans r2)
    ·rw[if_neg hl] at h;exact h.elim
   |_=>exact h.elim
 ·exact h.elim
 ·exact h.elim
end
end Pu
namespace Pu
open PySem PySem.Spec L2
open PyProof.Rows hiding St
noncomputable def Its (lo:Int) (n:Nat) (c:Int):It:=⟨λ i Z=>i < n,λ i H x H'=>H'=H/\x= .int (lo+i*c),λ i Z=>n<=i⟩
theorem adA {P:Program} {w:World} {K:PySem.W.Frag} {tg:Expr} (it:Addr) (lo:Int) (n:Nat) (c:Int):Turn P w K tg (Its lo n c) [it] it (λ i h=>IsRangeIter h it (lo+(i:Nat)*c) ((n:Int) - (i:Nat)) c) where
 mem:=by simp
 obj :=λ i h st b hb=>by
  have e:b=it:=by simpa using hb
  subst e
  exact⟨_,st,λ v z=>by
   have z':Data.fields _=Data.cell v:=z
   injection z'⟩
 keep:=λ i h h' st k=>k it (by simp) _ st
 item:=by
  intro X hP hw hK hc i pins s σ H E I hf st hg
  subst hP hw hK
  refine bc λ zQ=>?_
  obtain⟨f0,f1,f2,f3,f4,f5⟩:=hf it (by simp)
  apply zQ;clear zQ
  have W:=Walks.range (prog:=X.prog) (w:=X.w) (I.ok.hd hc) it lo c n
  refine W.item i s _ _ hg st λ v h' tk hv st' kk=>?_
  refine bc λ zQ=>?_
  obtain⟨t,rfl⟩:=hv
  apply zQ;clear zQ
  have I1:Inv X pins σ H {s with heap:=h',toks:=tk}:=I.turned (λ b o hb e=>kk b o (by simpa using hb) e) f0 f1 f3 f4 f5
  exact⟨_,rfl,go_of (s:={s with heap:=h',toks:=tk}) (n:= "range_iterator") st' rfl rfl (by decide) ⟨.int (lo+i*c),H,I1,⟨t,rfl⟩,⟨rfl,rfl⟩,st',λ b hb=>(hf b hb).1⟩⟩
 done:=by
  intro X hP hw hK hc i pins s σ H E I hf st hg
  subst hP hw hK
  refine bc λ zQ=>?_
  obtain⟨f0,f1,f2,f3,f4,f5⟩:=hf it (by simp)
  apply zQ;clear zQ
  exact wpAny_pyNext_range_end (I.ok.hd hc) st (by have:n<=i:=hg;exact oq2 this) λ h' eb=>⟨rfl,I.turned (t':=s.toks) (λ b o hb e=>eb b o hb e) f0 f1 f3 f4 f5⟩
 self:=λ Z Z Z Z Z st h=>wpAny_pyIter_rangeiter st h
noncomputable def zJ (hi:Int) (n:Nat):List D:=(List.range n).map λ (i:Nat)=>D.int (hi - (i:Int))
theorem YR.step {K:PySem.W.Frag} {O:Addr->Prop} {H:Hp} (hi:Int) (n:Nat):YR K O H (Its hi n (-1)) (zJ hi n):=by
 intro O' H' Z
 intro i
 refine⟨λ d e=>?_,λ e=>?_⟩
 ·unfold zJ at e
  rw[List.getElem?_map] at e
  cases q:(List.range n)[i]? with
  |none=>rw[q] at e;injection e
  | some k=>
   rw[q] at e
   have hk:i < n/\i=k:=by simpa[List.getElem?_range] using (List.getElem?_eq_some_iff.mp q)
   obtain⟨h1,rfl⟩:=hk
   (injection e with aH;subst aH)
   refine⟨h1,λ x H2 y=>?_⟩
   obtain⟨rfl,rfl⟩:=y
   exact⟨Same.refl _,by rw[show hi+(i:Int)*(-1)=hi - (i:Int) by omega];exact cO _⟩
 ·show n<=i
  unfold zJ at e
  simpa using e
section
variable {X:Cx} {tg a b c:Expr} {p pos p2 pos2:Pos} {fa:aq->R (List D)} {ta:TA}
noncomputable def aow:List D->R (List D)
 |[.int i,.int j,.int k]=>if k= -1/\-(2 ^ 62)<=i/\i < 2 ^ 62/\-(2 ^ 62)<=j/\j < 2 ^ 62 then .ok (zJ i (i - j).toNat) else .bad
 |_=> .bad
end
section
variable {prog:Program} {w:World} {A:Around} {E:Value->Shared->Prop} {s:Shared}
theorem Ke (r:Addr) (j:Int) (t u v:Tok) (h0:0<=j) (h1:j<=1000):Meets (Builtin.«range.__reversed__» ⟨[.ref r],[]⟩) (λ Z R s=>IsRange s.heap r 0 j 1 t u v/\R (.ok (.ret (.ref s.heap.objs.size))) {s with heap:=s.heap.push {cls:= .type "range_iterator",data:= .fields #[rawInt (j - 1),rawInt j,rawInt (-1)]}}):=
 .of_wp λ prog w A R s h=>by
  obtain⟨hp,g,d,tk,os⟩:=s
  obtain⟨hr,h⟩:=h
  have e1:Builtin.Range.rangeSize 0 j 1=j:=by rw[rangeSize_one];split <;> (first |exact aks |exact akt h0 (by assumption))
  have e2:(Builtin.Range.rangeFitsLong 0 && Builtin.Range.rangeFitsLong j && Builtin.Range.rangeFitsLong 1 && Builtin.Range.rangeFitsLong (-1) && Builtin.Range.rangeFitsLong (0 - 1) && Builtin.Range.rangeFitsLong j)=true:=by
   simp only[Builtin.Range.rangeFitsLong,Bool.and_eq_true,decide_eq_true_eq];exact alN h0 h1
  have e3:(0:Int)+(j - 1)*1=j - 1:=by exact aku
  unfold Builtin.«range.__reversed__» Builtin.Range.rangeFields
  wp_walk using wpAny_loadPart' hr
  rw[e1]
  simp only[e2,e3,Bool.not_true,Bool.false_eq_true,if_false,if_true]
  unfold newFields
  refine wpAny_bind (wpAny_newObj_type (wpAny_pure ⟨_,rfl,h⟩) (by size_fits))
theorem Kf:isSubtype (.type "range_iterator") (.type "reversed")=pure false:=by rw[isSubtype_type];kernel_rfl
theorem M9 {r:Addr} {j:Int} {t u v:Tok} {Q₁:Value->Shared->Prop} (h0:0<=j) (h1:j<=1000) (hr:IsRange s.heap r 0 j 1 t u v)
  (h:Q₁ (.ref s.heap.objs.size) {s with heap:=s.heap.push {cls:= .type "range_iterator",data:= .fields #[rawInt (j - 1),rawInt j,rawInt (-1)]}}):
  codeAny (model prog w) A (.call (.builtin "reversed.__new__") ⟨[.type "reversed",.ref r],[]⟩) (wants Q₁ E) s:=by
 have hT:s.TypeIs (.ref r) "range" :=⟨_,hr,rfl⟩
 refine codeAny_of_tree ?_
 show wpAny _ A.in1 (do checkBuiltinCall "reversed.__new__" ⟨[.type "reversed",.ref r],[]⟩;again (.builtin "reversed.__new__" ⟨[.type "reversed",.ref r],[]⟩)) _ _ s
 refine wpAny_bind (wpAny_of_eq (PySem.F.newCall_reversed_1 _) (wpAny_pure ⟨plainId_quiet PySem.F.plain_reversed_new _,codeAny_builtin PySem.F.entry_reversed_new ?_⟩))
 rw[Around.under_plainId PySem.F.plain_reversed_new _]
 unfold Builtin.«reversed.__new__»
 refine wpAny_bind (wpAny_of_eq (newClass_reversed _) ?_)
 try dsimp only
 refine wpAny_bind (wpAny_of_eq (a:=()) (by first |rfl |kernel_rfl) ?_)
 refine wpAny_bind (wpAny_of_eq (a:=()) (by first |rfl |kernel_rfl) ?_)
 try dsimp only
 refine wpAny_bind (wpAny_specialOf hT PySem.F.slot_range_reversed.lookup ?_)
 try dsimp only
 refine wpAny_bind (wpAny_of_eq (PySem.F.slot_range_reversed.bind _) ?_)
 try dsimp only
 first
 |rw [if_neg (show ¬((Value.builtin "range.__reversed__" ==Value.none)=true) from Bool.false_ne_true)]
 |(show wpAny _ _ (if (Value.builtin "range.__reversed__" ==Value.none)=true then _ else _) _ _ _;rw[if_neg (show ¬((Value.builtin "range.__reversed__" ==Value.none)=true) from Bool.false_ne_true)])
 refine wpAny_bind (wpAny_rule ?_)
 refine wpAny_bind (m:=runValue (.call (.builtin "range.__reversed__") ⟨[.ref r],[]⟩)) (show wpAny _ _ (call (.builtin "range.__reversed__") [.ref r]) _ _ _ from call_meets PySem.F.slot_range_reversed hT PySem.F.entry_range_reversed (PySem.F.args_range_reversed_1 _) (Ke r j t u v h0 h1) ⟨hr,?_⟩)
 first
 |exact wpAny_pure h
 |exact wpAny_bind (wpAny_pure (wpAny_pure h))
theorem Nb {r:Addr} {j:Int} {t u v:Tok} {Q:Value->Shared->Prop} (h0:0<=j) (h1:j<=1000) (hr:IsRange s.heap r 0 j 1 t u v)
  (h:Q (.ref s.heap.objs.size) {s with heap:=s.heap.push {cls:= .type "range_iterator",data:= .fields #[rawInt (j - 1),rawInt j,rawInt (-1)]}}):wpAny (model prog w) A (call (.type "reversed") [.ref r]) Q E s:=by
 refine callType_other (U:= "range_iterator") (Q₁:=λ obj s₁=>obj= .ref s.heap.objs.size/\s₁={s with heap:=s.heap.push {cls:= .type "range_iterator",data:= .fields #[rawInt (j - 1),rawInt j,rawInt (-1)]}}) (by decide +kernel) PySem.F.create_reversed ⟨_,_,PySem.F.mro_reversed⟩ PySem.F.made_reversed Kf (PySem.F.typeCall_reversed_1 _) (M9 h0 h1 hr ⟨rfl,rfl⟩) ?_
 rintro obj s₁ ⟨rfl,rfl⟩
 exact⟨⟨_,Heap.get?_push_size _ rfl,rfl⟩,h⟩
end
section
variable {X:Cx} {tg a:Expr} {p pos p2 pos2:Pos} {fa:aq->R (List D)}
noncomputable def Um:List D->R (List D):=aaL λ j=>if 0<=j/\j<=1000 then .ok (zJ (j - 1) j.toNat) else .bad
theorem aoC (j:Int):Um [.int j]=(if 0<=j/\j<=1000 then .ok (zJ (j - 1) j.toNat) else .bad):=rfl
theorem ahn (hg:Gl X "reversed") (hm:X.mg "reversed" =none) (hg2:Gl X "range") (hm2:X.mg "range" =none) (ha:DA X [a] fa) (hs:autoParam (starEach [a] X.env=[(false,eval a X.env)]) bB._auto_1)
  (he:autoParam (starEach [.Call (.Name "range" p2) [a] [] pos2] X.env=(false,eval (.Call (.Name "range" p2) [a] [] pos2) X.env)::starEach [] X.env) bB._auto_1) (hpl:autoParam ((backTo pos (starEach [] X.env)).any (·.1)=false) bB._auto_1):
  DI X tg (.Call (.Name "reversed" p) [.Call (.Name "range" p2) [a] [] pos2] [] pos) (λ ρ=>(fa ρ).bind Um):=by
 intro pins s σ H R I h
 have A:=pa_cons (ai3 (p:=p2) (pos:=pos2) hg2 hm2 ha hs) pa_nil he
 refine bc λ zQ=>?_
 obtain⟨ρ,O,jn,h⟩:=h
 apply zQ;clear zQ
 have key:tCons (ai2 X.K (tG X (ZR X) fa)) tNil σ H (λ vs H1=>∃q j,vs=[.ref q]/\H1 q=some (.rng 0 j)/\0<=j/\j<=1000/\R (Its (j - 1) j.toNat (-1)) H1):=by
  refine go jn h λ ds vs H1 e1 s1 r1 j1 h1=>?_
  replace h1:=Mt h1
  refine bc λ zQ=>?_
  obtain⟨j,rfl,h1⟩:=h1
  apply zQ;clear zQ
  ·skip
   by_cases hh:0<=j/\j<=1000
   ·rw[if_pos hh] at h1
    refine bc λ zQ=>?_
    obtain⟨v,rfl,w⟩:=r1.one
    apply zQ;clear zQ
    exact⟨j,by rw[w.int],hh.1,hh.2,λ q hq=>⟨q,j,rfl,upd_same,hh.1,hh.2,h1 _ _ (Same.upd hq) (YR.step _ _)⟩⟩
   ·rw[if_neg hh] at h1;exact h1.elim
 refine Call_ (ld_blt I hg hm boot_reversed (PyProof.Rows.callWith_type1 (thn (A pos pins s σ H _ I key) λ us s1 ⟨vs,H1,I1,r1,q1⟩=>?_) he hpl))
 refine bc λ zQ=>?_
 obtain⟨q,j,e,hq,h0,h1,q⟩:=q1
 apply zQ;clear zQ
 subst e
 cases r1 with
 | cons r rr=>
  cases rr
  obtain rfl:=r
  refine bc λ zQ=>?_
  obtain⟨t,u,v,hr⟩:=I1.hok _ _ hq
  apply zQ;clear zQ
  refine Nb h0 h1 hr ?_
  have hit:IsRangeIter (s1.heap.push {cls:= .type "range_iterator",data:= .fields #[rawInt (j - 1),rawInt j,rawInt (-1)]}) s1.heap.objs.size (j - 1) j (-1):=Heap.get?_push_size _ rfl
  refine wpAny_pyIter_rangeiter (s:={s1 with heap:=s1.heap.push {cls:= .type "range_iterator",data:= .fields #[rawInt (j - 1),rawInt j,rawInt (-1)]}}) hit ?_
  refine⟨s1.heap.objs.size,[s1.heap.objs.size],_,_,H1,rfl,I1.kept (t':=s1.toks) λ b o e=>Heap.get?_push_of_some _ e,adA _ (j - 1) j.toNat (-1),?_,λ b hb=>?_,q⟩
  ·show IsRangeIter _ _ (j - 1+((0:Nat):Int)*(-1)) (((j.toNat:Nat):Int) - ((0:Nat):Int)) (-1)
   rw[show j - 1+((0:Nat):Int)*(-1)=j - 1 by simp,show ((j.toNat:Nat):Int) - ((0:Nat):Int)=j by exact akv h0]
   exact hit
  ·have e:b=s1.heap.objs.size:=by simpa using hb
   subst e
   exact I1.fpOk (z0g _) (I1.hok.fresh (z0g _))
end
end Pu
namespace Pu
open PySem PySem.Spec PySem.W L2
open PyProof.Rows hiding St
noncomputable def fV:List Int->List Int->Bool
 |[],[]=>false
 |[],_::_=>true
 |_::_,[]=>false
 |x::xs,y::ys=>if x=y then fV xs ys else decide (x < y)
theorem Hu (x y:Int) (xs ys:List Int):fV (x::xs) (y::ys)=if x=y then fV xs ys else decide (x < y):=rfl
theorem pD:∀a:List Int,fV a a=false
 |[]=>rfl
 |x::xs=>by rw[Hu,if_pos rfl];exact pD xs
theorem mR:∀{a b c:List Int},fV a b=true->fV b c=true->fV a c=true
 |[],[],_,h,_=>by injection h
 |[],_::_,[],_,h=>by injection h
 |[],_::_,_::_,_,_=>rfl
 |_::_,[],_,h,_=>by injection h
 |_::_,_::_,[],_,h=>by injection h
 | x ::a,y::b,z::c,h1,h2=>by
  rw[Hu] at h1 h2 |-
  by_cases e1:x=y
  ·rw[if_pos e1] at h1
   subst e1
   by_cases e2:x=z
   ·rw[if_pos e2] at h2 |-;exact mR h1 h2
   ·rw[if_neg e2] at h2 |-;exact h2
  ·rw[if_neg e1] at h1
   have h1:x < y:=of_decide_eq_true h1
   by_cases e2:y=z
   ·subst e2;rw[if_neg e1];exact decide_eq_true h1
   ·rw[if_neg e2] at h2
    have h2:y < z:=of_decide_eq_true h2
    rw[if_neg (by exact aky h1 h2)];exact decide_eq_true (by exact akx h1 h2)
theorem zK:∀{a b:List Int},a≠b->fV a b=false->fV b a=true
 |[],[],h,_=>absurd rfl h
 |[],_::_,_,h=>by injection h
 |_::_,[],_,_=>rfl
 | x ::a,y::b,h,e=>by
  rw[Hu] at e |-
  by_cases e1:x=y
  ·subst e1
   rw[if_pos rfl] at e |-
   exact zK (λ z=>h (by rw[z])) e
  ·rw[if_neg e1] at e
   rw[if_neg (λ z=>e1 z.symm)]
   have e:¬x < y:=of_decide_eq_false e
   exact decide_eq_true (by exact akz e e1)
section
variable {prog:Program} {w:World} {A:Around} {E:Value->Shared->Prop} {s:Shared}
theorem X7 {a b:Addr} {oa ob:Obj} {xs ys:Array Value} {na nb:Nat} {ns ms:List Int} {P:PySem.Fin->Shared->Prop} (hoa:s.heap.get? a=some oa) (hda:oa.data= .seq xs na) (hob:s.heap.get? b=some ob) (hcb:ob.cls= .type "tuple") (hdb:ob.data= .seq ys nb)
  (hia:IntsAre xs.toList ns) (hib:IntsAre ys.toList ms) (h:P (.done (.ret (.bool (fV ns ms)))) s):
  wpAny (model prog w) A (Builtin.«tuple.__lt__» ⟨[.ref a,.ref b],[]⟩) P E s:=by
 have hTb:s.TypeIs (.ref b) "tuple" :=⟨ob,hob,hcb⟩
 show wpAny _ _ (isInstance (.ref b) (.type "tuple") >>=_) _ _ s
 refine wpAny_bind (wpAny_isInstance hTb isSubtype_tuple_tuple ?_)
 simp only[Bool.not_true,Bool.false_eq_true,if_false]
 refine wpAny_bind (wpAny_tupleItemsOf hoa hda ?_)
 refine wpAny_bind (wpAny_tupleItemsOf hob hdb ?_)
 refine wpAny_bind ?_
 refine wpAny_forIn_list _
  (λ rest r s'=>r.1=none/\s'=s/\∃xs' ys' ns' ms',rest=List.zip xs' ys'/\IntsAre xs' ns'/\IntsAre ys' ms'/\fV ns' ms'=fV ns ms/\decide (xs'.length < ys'.length)=decide (xs.size < ys.size))
  _ ?_ ?_ _ _ ⟨rfl,rfl,xs.toList,ys.toList,ns,ms,rfl,hia,hib,rfl,by simp⟩
 ·rintro ⟨u,v⟩ rest r s' ⟨hr,rfl,xs',ys',ns',ms',hz,hx',hy',hdec,hlen⟩
  cases hx' with
  |nil=>simp at hz
  | cons k1 t1 hx''=>
   cases hy' with
   |nil=>simp at hz
   | cons k2 t2 hy''=>
    simp only[List.zip_cons_cons,List.cons.injEq,Prod.mk.injEq] at hz
    obtain⟨⟨rfl,rfl⟩,rfl⟩:=hz
    refine wpAny_bind (wpAny_eqBool_int ?_)
    rw[Hu] at hdec
    by_cases hk:k1=k2
    ·subst hk
     rw[if_pos rfl] at hdec
     simp only[beq_self_eq_true,Bool.not_true,Bool.false_eq_true,if_false]
     exact wpAny_pure ⟨rfl,rfl,_,_,_,_,rfl,hx'',hy'',hdec,by simpa using hlen⟩
    ·rw[if_neg hk] at hdec
     have e:(k1 ==k2)=false:=by simpa using hk
     rw[e]
     simp only[Bool.not_false,if_true]
     rw[<-hdec] at h
     refine wpAny_bind (wpAny_rule ?_)
     refine wpAny_bind (m:=richCompare .Lt (.int k1 t1) (.int k2 t2)) (show wpAny _ _ (compareOp .Lt (.int k1 t1) (.int k2 t2)) _ _ _ from lt_int ?_)
     first
      |exact wpAny_pure (wpAny_pure h)
      |exact wpAny_bind (wpAny_pure (wpAny_pure (wpAny_pure h)))
      |exact wpAny_bind (wpAny_pure (wpAny_pure h))
 ·rintro⟨r1,r2⟩ s' ⟨hr,rfl,xs',ys',ns',ms',hz,hx',hy',hdec,hlen⟩
  simp only at hr
  subst hr
  refine wpAny_pure ?_
  have hfin:decide (xs.size < ys.size)=fV ns ms:=by
   rw[<-hdec,<-hlen]
   cases hx' with
   | nil=>
    cases hy' with
    |nil=>rfl
    |cons _ _ _=>rfl
   | cons _ _ _=>
    cases hy' with
    |nil=>rfl
    |cons _ _ _=>simp at hz
  show P (.done (.ret (.bool (decide (xs.size < ys.size))))) s'
  rw[hfin];exact h
theorem aak {a b:Addr} {oa ob:Obj} {xs ys:Array Value} {na nb:Nat} {ns ms:List Int} {Q:Value->Shared->Prop} (hu:A.units < cLine) (hoa:s.heap.get? a=some oa) (hca:oa.cls= .type "tuple") (hda:oa.data= .seq xs na) (hob:s.heap.get? b=some ob) (hcb:ob.cls= .type "tuple") (hdb:ob.data= .seq ys nb)
  (hia:IntsAre xs.toList ns) (hib:IntsAre ys.toList ms) (h:Q (.bool (fV ns ms)) s):wpAny (model prog w) A (compareOp .Lt (.ref a) (.ref b)) Q E s:=by
 show wpAny _ _ (richCompare .Lt (.ref a) (.ref b)) _ _ _
 exact wpAny_richCompare_same_room (op:= .Lt) ⟨oa,hoa,hca⟩ ⟨ob,hob,hcb⟩ PySem.F.slot_tuple_lt
   (wpAny_call_entry PySem.F.slot_tuple_lt ⟨oa,hoa,hca⟩ PySem.F.entry_tuple_lt (X7 hoa hda hob hcb hdb hia hib ⟨_,rfl,(λ e=>nomatch e),h⟩) (PySem.F.args_tuple_lt_2 _ _)) hu
end
section
variable {X:Cx}
end
end Pu
namespace Pu
open PySem PySem.Spec PySem.W L2
open PyProof.Rows hiding St
noncomputable def Nf (p:List Int):List (List Int)->List (List Int)
 |[]=>[p]
 |q::r=>if fV p q then p::q::r else q::Nf p r
theorem adB (p q:List Int) (r:List (List Int)):Nf p (q::r)=if fV p q then p::q::r else q::Nf p r:=rfl
noncomputable def mC:List (List Int)->List (List Int)
 |[]=>[]
 |p::r=>Nf p (mC r)
theorem Dz (p:List Int):∀l,(Nf p l).Perm (p::l)
 |[]=> .refl _
 | q::r=>by
  rw[adB]
  split
  ·exact .refl _
  ·exact ((Dz p r).cons q).trans (List.Perm.swap p q r)
theorem kW:∀l,(mC l).Perm l
 |[]=> .refl _
 |p::r=>(Dz p _).trans ((kW r).cons p)
noncomputable abbrev Hv (l:List (List Int)):Prop:=l.Pairwise λ a b=>fV a b=true
theorem Qi (p:List Int):∀{l:List (List Int)},Hv l->p∉l->Hv (Nf p l)
 |[],_,_=>by show Hv [p];simp
 | q ::r,h,hn=>by
  obtain⟨h1,h2⟩:=List.pairwise_cons.mp h
  rw[adB]
  by_cases e:fV p q=true
  ·rw[if_pos e]
   refine List.pairwise_cons.mpr ⟨λ z hz=>?_,h⟩
   rcases List.mem_cons.mp hz with z1 |z1
   ·rw[z1];exact e
   ·exact mR e (h1 z z1)
  ·rw[if_neg e]
   have e2:fV q p=true:=zK (λ z=>hn (by rw[z];exact List.mem_cons_self)) (by simpa using e)
   refine List.pairwise_cons.mpr ⟨λ z hz=>?_,Qi p h2 λ z=>hn (List.mem_cons_of_mem _ z)⟩
   rcases List.mem_cons.mp ((Dz p r).mem_iff.mp hz) with z1 |z1
   ·rw[z1];exact e2
   ·exact h1 z z1
theorem DN:∀{l:List (List Int)},l.Nodup->Hv (mC l)
 |[],_=> .nil
 | p::r,h=>by
  obtain⟨h1,h2⟩:=List.nodup_cons.mp h
  exact Qi p (DN h2) λ z=>h1 ((kW r).mem_iff.mp z)
theorem Kg:∀{a b:List (List Int)},a.Perm b->Hv a->Hv b->a=b
 |[],b,p,_,_=>(List.nil_perm.mp p).symm
 |x::a,[],p,_,_=>absurd (List.perm_nil.mp p) (by simp)
 | x :: a,y::b,p,ha,hb=>by
  have ha':=List.pairwise_cons.mp ha
  have hb':=List.pairwise_cons.mp hb
  have h1:x=y:=by
   rcases List.mem_cons.mp (p.mem_iff.mp (List.mem_cons_self (a:=x) (l:=a))) with h |h
   ·exact h
   ·rcases List.mem_cons.mp (p.mem_iff.mpr (List.mem_cons_self (a:=y) (l:=b))) with k |k
    ·exact k.symm
    ·have:=mR (ha'.1 y k) (hb'.1 x h)
     rw[pD] at this;injection this
  subst h1
  rw[Kg ((List.perm_cons x).mp p) ha'.2 hb'.2]
theorem aa1 {ts:List (List Int)} (hn:ts.Nodup) {a b:Nat} (ha:a < ts.length) (hb:b < ts.length) (hab:a≠b):ts.getD a []≠ts.getD b []:=by
 simp only[List.getD,List.getElem?_eq_getElem ha,List.getElem?_eq_getElem hb,Option.getD_some]
 intro z
 exact hab ((List.getElem_inj hn).mp z)
theorem aho {ts:List (List Int)} (hn:ts.Nodup):Ord ts.length (λ i j=>fV (ts.getD i []) (ts.getD j [])):=
 ⟨λ a b c Z Z Z h1 h2=>mR h1 h2,λ a b ha hb hab h=>zK (aa1 hn ha hb hab) h⟩
theorem Uo {ts:List (List Int)} (hn:ts.Nodup) {q:Array Nat} (h:Pm ts.length q) (hs:S (λ i j=>fV (ts.getD i []) (ts.getD j [])) q ts.length):q.toList.map (λ i=>ts.getD i [])=mC ts:=by
 refine Kg ?_ ?_ (DN hn)
 ·have e:(List.range ts.length).map (λ i=>ts.getD i [])=ts:=by
   apply List.ext_getElem?
   intro i
   by_cases hi:i < ts.length
   ·simp[hi]
   ·simp[hi]
  have:=h.perm.map λ i=>ts.getD i []
  rw[e] at this
  exact this.trans (kW ts).symm
 ·refine List.pairwise_iff_getElem.mpr λ i j hi hj hij=>?_
  have hl:(q.toList.map λ i=>ts.getD i []).length=ts.length:=by simp[h.size]
  have:=hs i j hij (by rw[<-hl];exact hj)
  have e:∀(k:Nat) (hk:k < (q.toList.map λ i=>ts.getD i []).length),(q.toList.map λ i=>ts.getD i [])[k]=ts.getD (q.getD k 0) []:=λ k hk=>by
   have hk':k < q.size:=by simpa using hk
   simp[Array.getD,hk']
  rw[e i hi,e j hj];exact this
section
variable {prog:Program} {w:World} {A:Around} {E:Value->Shared->Prop} {s:Shared}
inductive jm (h:Heap) (a:Addr) (l c:Int) (ps:List Int):Prop
 |mk (o o2:Obj) (n n2:Nat) (t u:Tok) (p:Addr) (vs:Array Value) (h1:h.get? a=some o) (h2:o.cls= .type "tuple") (h3:o.data= .seq #[.int l t,.int c u,.ref p] n) (h4:h.get? p=some o2) (h5:o2.cls= .type "tuple") (h6:o2.data= .seq vs n2) (h7:IntsAre vs.toList ps):jm h a l c ps
theorem jm.keeps {h h':Heap} {a:Addr} {l c:Int} {ps:List Int} (x:jm h a l c ps) (k:∀b o,h.get? b=some o->o.cls= .type "tuple"->h'.get? b=some o):jm h' a l c ps:=
 by
 obtain⟨o,o2,n,n2,t,u,p,vs,h1,h2,h3,h4,h5,h6,h7⟩:=x
 exact⟨o,o2,n,n2,t,u,p,vs,k _ _ h1 h2,h2,h3,k _ _ h4 h5,h5,h6,h7⟩
theorem vf {prog:Program} {w:World}:∀{vs:List Value} {ns:List Int},IntsAre vs ns->ItemsAre (intKind prog w) ns vs
 |_,_,.nil=> .nil
 |_,_,.cons n t h=> .cons (intKind_is _ _ _ _) (vf h)
theorem ahp {x y:Addr} {l c l' c':Int} {ps qs:List Int} {Q:Bool->Shared->Prop} (hu:A.units < cLine) (hx:jm s.heap x l c ps) (hy:jm s.heap y l' c' qs) (h:Q (fV (l::c::ps) (l'::c'::qs)) s):
  wpAny (model prog w) A (keyLt' (tuples' true) (.ref x) (.ref y)) Q E s:=by
 obtain⟨o,o2,n,n2,t,u,p,vs,h1,h2,h3,h4,h5,h6,h7⟩:=hx
 obtain⟨o',o2',n',n2',t',u',p',vs',g1,g2,g3,g4,g5,g6,g7⟩:=hy
 refine kat_lt h1 h3 g1 g3 ?_
 show KatLex prog w A true (decide (3 < 3)) Q [(.int l t,.int l' t'),(.int c u,.int c' u'),(.ref p,.ref p')] 0 s
 rw[Hu,Hu] at h
 refine kat_cons (SeqAt.EqAt.int_int l t l' t' prog w _ _ ?_)
 by_cases e1:l=l'
 ·rw [if_pos e1] at h
  rw[show (l ==l')=true by simpa using e1]
  refine kat_yes (kat_cons (SeqAt.EqAt.int_int c u c' u' prog w _ _ ?_))
  by_cases e2:c=c'
  ·rw[if_pos e2] at h
   rw[show (c ==c')=true by simpa using e2]
   refine kat_yes (kat_cons (wpAny_eqBool_tuple (knd:=intKind prog w) hu ⟨o2,vs,n2,h4,h5,h6,vf h7⟩ ⟨o2',vs',n2',g4,g5,g6,vf g7⟩ ?_))
   by_cases e3:ps=qs
   ·rw[e3,pD] at h
    rw[decide_eq_true e3]
    exact kat_yes (kat_nil (by simpa using h))
   ·rw[decide_eq_false e3]
    refine kat_no ?_
    show wpAny (model prog w) A (oneLt' false _ _) Q _ s
    exact kat_one _ _ (aak hu h4 h5 h6 g4 g5 g6 h7 g7 h)
  ·rw[if_neg e2] at h
   rw[show (c ==c')=false by simpa using e2]
   refine kat_no ?_
   show wpAny (model prog w) A (oneLt' false _ _) Q _ s
   exact kat_one _ _ (lt_int h)
 ·rw[if_neg e1] at h
  rw[show (l ==l')=false by simpa using e1]
  refine kat_no ?_
  show wpAny (model prog w) A (keyLt' oneType' (.int l t) (.int l' t')) Q _ s
  exact kat_lt_int h
end
theorem Uq {h:Heap}:∀(as:List Addr),(∀a∈as,∃l c ps,jm h a l c ps)->∃fs,KatTups h (as.map Value.ref) fs/\fs.length=as.length/\∀f∈fs,∃k t,f=Value.int k t
 |[],_=>⟨[],.nil,rfl,λ f hf=>by simp at hf⟩
 | a::as,hx=>by
  obtain⟨l,c,ps,o,o2,n,n2,t,u,p,vs,h1,h2,h3,_⟩:=hx a List.mem_cons_self
  obtain⟨fs,k1,k2,k3⟩:=Uq as λ b hb=>hx b (List.mem_cons_of_mem _ hb)
  refine⟨.int l t::fs,KatTups.cons h1 h2 h3 rfl k1,by simp[k2],λ f hf=>?_⟩
  rcases List.mem_cons.mp hf with z |z
  ·exact⟨l,t,z⟩
  ·exact k3 f z
section
variable {X:Cx}
noncomputable def Hw (K:PySem.W.Frag) (H:Hp) (a:Addr) (ns:List Int):Prop:=∃l c ps p,ns=l::c::ps/\SqT K H a [.int l,.int c,.ref p]/\SqT K H p (ps.map V.int)
theorem Ng {pins:List (Addr×Obj)} {σ:St} {H:Hp} {s:Shared} {a:Addr} {ns:List Int} (I:Inv X pins σ H s) (h:Hw X.K H a ns):∃l c ps,ns=l::c::ps/\jm s.heap a l c ps:=by
 refine bc λ zQ=>?_
 obtain⟨l,c,ps,p,rfl,h1,h2⟩:=h
 obtain⟨its,r1,⟨o,ho,hc,n,hd⟩,_⟩:=I.tuple h1
 obtain⟨its2,r2,⟨o2,ho2,hc2,n2,hd2⟩,_⟩:=I.tuple h2
 apply zQ;clear zQ
 refine⟨l,c,ps,rfl,?_⟩
 cases r1 with
 | cons a1 r1=>
  cases r1 with
  | cons a2 r1=>
   cases r1 with
   | cons a3 r1=>
    cases r1
    refine bc λ zQ=>?_
    obtain⟨t,rfl⟩:=a1
    obtain⟨u,rfl⟩:=a2
    apply zQ;clear zQ
    obtain rfl:=a3
    exact⟨o,o2,n,n2,t,u,p,its2.toArray,ho,hc,hd,ho2,hc2,hd2,by simpa using aac r2⟩
theorem aa2 (hu:X.A.units+2 < cLine):CallR X (.builtin "sorted") (λ xs H Q=>∃(a:Addr) (as:List Addr) (ts:List (List Int)),xs=[.ref a]/\SqL X.K H a (as.map V.ref)/\as.length=ts.length/\ts.length < 64/\ts.Nodup/\(∀(i:Nat) b t,as[i]?=some b->ts[i]?=some t->Hw X.K H b t)/\
  ∀(B:Addr) (bs:List Addr),H B=none->bs.length=ts.length->(∀(i:Nat) b t,bs[i]?=some b->(mC ts)[i]?=some t->b∈as/\∃j:Nat,as[j]?=some b/\ts[j]?=some t)->Q (.ref B) (upd H B (.lst (bs.map V.ref)))):=by
 intro pins s σ H xs us Q I r h
 refine bc λ zQ=>?_
 obtain⟨a,as,ts,rfl,hq,hl,h64,hn,ht,q⟩:=h
 obtain⟨u,rfl,rx⟩:=vals1 r
 apply zQ;clear zQ
 obtain rfl:=rx
 refine bc λ zQ=>?_
 obtain⟨its,rv,pl,hz⟩:=I.list hq
 apply zQ;clear zQ
 have hits:its=as.map Value.ref:=by
  have:∀(as:List Addr) (its:List Value),Vals (as.map V.ref) its->its=as.map Value.ref:=by
   intro as
   induction as with
   |nil=>intro its r;cases r;rfl
   |cons b as ih=>intro its r;cases r with |cons r1 r2=>obtain rfl:=r1;rw[ih _ r2];rfl
  exact this as its rv
 subst hits
 have lenV:(as.map Value.ref).length=ts.length:=by rw[List.length_map,hl]
 refine Calls.call_function_entry kind_sorted plain_sorted entry_sorted (args_sorted1 _) ?_
 unfold Builtin.«sorted»
 refine wpAny_bind (m:=checkCount "sorted" 1 1 _) (wpAny_pure ?_)
 refine wpAny_bind (collect_list pl.isList ?_)
 refine wpAny_bind (wpAny_newList ?_ (by rw[lenV,sizeLine_eq];exact SQ h64))
 have hsz:((s.heap.push (seqObj "list" #[] 0)).update s.heap.objs.size (Obj.mapSeq (· ++(as.map Value.ref).toArray))).objs.size=s.heap.objs.size+1:=by
  rw[Heap.size_update,size_push']
 have hB:(((s.heap.push (seqObj "list" #[] 0)).update s.heap.objs.size (Obj.mapSeq (· ++(as.map Value.ref).toArray))).push (seqObj "list" (as.map Value.ref).toArray 0)).get? (s.heap.objs.size+1)=some (seqObj "list" (as.map Value.ref).toArray 0):=by
  rw[<-hsz];exact Heap.get?_push_size _ rfl
 show wpAny _ _ _ _ _ {s with heap:=((s.heap.push (seqObj "list" #[] 0)).update s.heap.objs.size (Obj.mapSeq (· ++(as.map Value.ref).toArray))).push (seqObj "list" (as.map Value.ref).toArray 0)}
 rw[hsz]
 have kp:∀b o,s.heap.get? b=some o->(((s.heap.push (seqObj "list" #[] 0)).update s.heap.objs.size (Obj.mapSeq (· ++(as.map Value.ref).toArray))).push (seqObj "list" (as.map Value.ref).toArray 0)).get? b=some o:=λ b o e=>by
  refine Heap.get?_push_of_some _ ?_
  rw[Heap.get?_update_ne _ _ _ _ (Nat.ne_of_lt (Heap.lt_size e))]
  exact Heap.get?_push_of_some _ e
 have Ur:∀(i:Nat) b,as[i]?=some b->∃l c ps,ts.getD i []=l::c::ps/\jm s.heap b l c ps:=λ i b e=>by
  have hi:i < ts.length:=by rw[<-hl];exact (List.getElem?_eq_some_iff.mp e).1
  refine bc λ zQ=>?_
  obtain⟨l,c,ps,e1,e2⟩:=Ng I (ht i b ts[i] e (by simp[hi]))
  apply zQ;clear zQ
  exact⟨l,c,ps,by simp[hi,e1],e2⟩
 have bne:∀b o,s.heap.get? b=some o->b≠s.heap.objs.size+1:=λ b o e=>Nat.ne_of_lt (Nat.lt_succ_of_lt (Heap.lt_size e))
 refine wpAny_bind (wpAny_holding (wpAny_call_entry slot_list_sort ⟨_,hB,rfl⟩ entry_list_sort (ag0 (lt:=λ i j=>fV (ts.getD i []) (ts.getD j [])) (kk:=tuples' true) hB (by rw[lenV];exact h64) (by rw[lenV];exact aho hn) ?kind ?ask λ qq hq hqs=>⟨_,rfl,?fin⟩) (args_list_sort _)))
 case kind=>
  intro h2 h6 keep Q' hQ'
  refine bc λ zQ=>?_
  obtain⟨fs,kt,fl,fi⟩:=Uq (h:=h6) as λ b hb=>by
   obtain⟨i,hi⟩:=List.mem_iff_getElem?.mp hb
   obtain⟨l,c,ps,_,e⟩:=Ur i b hi
   exact⟨l,c,ps,e.keeps λ d o hd Z=>keep d o (bne d o hd) (kp d o hd)⟩
  apply zQ;clear zQ
  refine kat_kind (T:= .type "int") kt (by rw[fl,hl];rw[lenV] at h2;exact z0e h2) (λ f hf=>by obtain⟨k,t,rfl⟩:=fi f hf;exact .now) rfl hQ'
 case ask=>
  intro h6 keep i j C hi hj hC
  rw[lenV] at hi hj
  have hi':i < as.length:=by exact Tp hi hl
  have hj':j < as.length:=by exact Tp hj hl
  refine bc λ zQ=>?_
  obtain⟨l,c,ps,e1,t1⟩:=Ur i as[i] (by simp[hi'])
  obtain⟨l',c',ps',e2,t2⟩:=Ur j as[j] (by simp[hj'])
  apply zQ;clear zQ
  unfold kas_ask
  rw[show (as.map Value.ref).getD i Value.none= .ref as[i] by simp[hi'],show (as.map Value.ref).getD j Value.none= .ref as[j] by simp[hj']]
  refine ahp ?_ (t1.keeps λ d o hd Z=>keep d o (bne d o hd) (kp d o hd)) (t2.keeps λ d o hd Z=>keep d o (bne d o hd) (kp d o hd)) ?_
  ·first |exact z0c (by simp) hu |(show X.A.units+_ < cLine;omega)
  ·rw[e1,e2] at hC;exact hC
 case fin=>
  rw[lenV] at hq hqs
  refine wpAny_pure ⟨_,rfl,?_⟩
  have hout:(qq.toList.map λ i=>(as.map Value.ref).getD i Value.none)=(qq.toList.map λ i=>as.getD i 0).map Value.ref:=by
   rw[List.map_map]
   refine List.map_congr_left λ i hi=>?_
   have hi':i < as.length:=by rw[hl];exact List.mem_range.mp (hq.perm.mem_iff.mp hi)
   simp[hi']
  rw[hout]
  refine bc λ zQ=>?_
  obtain⟨cc,hFB⟩:=sortedHeap_at (vs:=as.map Value.ref) (out:=List.toArray ((qq.toList.map λ i=>as.getD i 0).map Value.ref)) hB
  apply zQ;clear zQ
  have hf:H (s.heap.objs.size+1)=none:=I.hok.fresh (Nat.le_succ _)
  refine⟨.ref (s.heap.objs.size+1),upd H (s.heap.objs.size+1) (.lst ((qq.toList.map λ i=>as.getD i 0).map V.ref)),I.laid (t':=s.toks) (λ b o e=>J4 (bne b o e) (kp b o e)) (Nat.le_succ _) ?_,rfl,q _ _ hf ?_ λ i b t eb et=>?_⟩
  ·refine⟨?_,_,cc,Z1 _,hFB⟩
   rw[List.length_map,List.length_map,Array.length_toList,hq.size,sizeLine_eq];exact SQ h64
  ·rw[List.length_map,Array.length_toList,hq.size]
  ·rw[<-Uo hn hq hqs] at et
   rw[List.getElem?_map] at eb et
   refine bc λ zQ=>?_
   cases ei:qq.toList[i]? with
   |none=>rw[ei] at eb;injection eb
   | some k=>
    apply zQ;clear zQ
    rw[ei] at eb et
    have eb:as.getD k 0=b:=Option.some.inj eb
    have et:ts.getD k []=t:=Option.some.inj et
    have hk:k < ts.length:=List.mem_range.mp (hq.perm.mem_iff.mp (List.mem_of_getElem? ei))
    have hk':k < as.length:=by exact Tp hk hl
    have ea:as[k]?=some b:=by simp[List.getD,hk'] at eb |-;exact eb
    exact⟨List.mem_of_getElem? ea,k,ea,by simp[List.getD,hk] at et |-;exact et⟩
end
end Pu
namespace Pu
open PySem PySem.Spec L2
open PyProof.Rows hiding St
noncomputable def jU:List Int->D
 |l::c::ps=> .tup [.int l,.int c,.tup (ps.map .int)]
 |_=> .non
noncomputable def oA:D->Option (List Int)
 | .tup [.int l,.int c,.tup ps]=>(intsOf ps).map λ ns=>l::c::ns
 |_=>none
noncomputable def pF:List D->Option (List (List Int))
 |[]=>some []
 | d::ds=>match oA d,pF ds with
  |some t,some ts=>some (t::ts)
  |_,_=>none
noncomputable def vg:List D->R D:=aaN λ ds=>match pF ds with
  |some ts=>if ts.length < 64/\ts.Nodup then .ok (.lst ((mC ts).map jU)) else .bad
  |none=> .bad
theorem Us (ds:List D):vg [.lst ds]=(match pF ds with
  |some ts=>if ts.length < 64/\ts.Nodup then .ok (.lst ((mC ts).map jU)) else .bad
  |none=> .bad):=rfl
theorem aa3 (ns:List Int):intsOf (ns.map D.int)=some ns:=by simpa using Ds (c:=λ i:Int=>i) (l:=ns)
theorem DP {l c:Int} {ps:List Int}:oA (jU (l::c::ps))=some (l::c::ps):=by
 show (intsOf (ps.map D.int)).map (λ ns=>l::c::ns)=_
 rw[aa3];rfl
section
variable {K:PySem.W.Frag} {O:Addr->Prop} {H:Hp}
theorem vh {t:List Int} {P:Prop} (e:(none:Option (List Int))=some t):P:=by injection e
theorem aa4 {d:D} {t:List Int} (e:oA d=some t):∃l c ps,d= .tup [.int l,.int c,.tup ps]:=by
 cases d with
 | tup ds=>
  rcases ds with _ |⟨a,_ |⟨b,_ |⟨c,_ |⟨_,_⟩⟩⟩⟩
  ·exact vh e
  ·cases a <;> exact vh e
  ·cases a with
   |int l=>cases b <;> exact vh e
   |_=>exact vh e
  ·cases a with
   | int l=>
    cases b with
    | int m=>
     cases c with
     |tup ps=>exact⟨l,m,ps,rfl⟩
     |_=>exact vh e
    |_=>exact vh e
   |_=>exact vh e
  ·cases a with
   | int l=>
    cases b with
    |int m=>cases c <;> exact vh e
    |_=>exact vh e
   |_=>exact vh e
 |_=>exact vh e
theorem Jj {d:D} {v:V} {t:List Int} (e:oA d=some t) (r:Rep K O H d v):∃b,v= .ref b/\Hw K H b t/\Rep K O H (jU t) v:=by
 refine bc λ zQ=>?_
 obtain⟨l,c,ps,rfl⟩:=aa4 e
 apply zQ;clear zQ
 replace e:(intsOf ps).map (λ ns=>l::c::ns)=some t:=e
 ·skip
  refine bc λ zQ=>?_
  cases q:intsOf ps with
  |none=>rw[q] at e;injection e
  | some ns=>
   apply zQ;clear zQ
   rw[q] at e;(injection e with aH;subst aH)
   refine bc λ zQ=>?_
   obtain⟨a,xs,rfl,hq,rs⟩:=r.tup
   obtain⟨v1,v2,v3,rfl,r1,r2,r3⟩:=rs.three
   apply zQ;clear zQ
   have r1:=r1.int
   have r2:=r2.int
   subst r1 r2
   refine bc λ zQ=>?_
   obtain⟨p,ys,rfl,hq2,J3⟩:=r3.tup
   apply zQ;clear zQ
   have e2:=Qc q J3
   subst e2
   refine⟨a,rfl,⟨l,c,ns,p,rfl,hq,hq2⟩,jz hq (.cons (cO l) (.cons (cO c) (.cons (jz hq2 Dv) .nil)))⟩
set_option tactic.hygienic true in
theorem Qj:∀{ds:List D} {vs:List V} {ts:List (List Int)},pF ds=some ts->aZ K O H ds vs->∃as:List Addr,vs=as.map V.ref/\as.length=ts.length/\∀(i:Nat) b t,as[i]?=some b->ts[i]?=some t->Hw K H b t/\Rep K O H (jU t) (.ref b)
 | [],vs,ts,e,r=>by
  (injection e with aH;subst aH)
  exact⟨[],r.nil_inv,rfl,λ i b t h=>by simp at h⟩
 | d ::ds,vs,ts,e,r=>by
  obtain⟨x,r',rfl,h1,h2⟩:=r.cons_inv
  unfold pF at e
  split at e
  ·rename_i t ts' e1 e2
   (injection e with aH;subst aH)
   obtain⟨b,rfl,h3,h4⟩:=Jj e1 h1
   obtain⟨as,rfl,h5,h6⟩:=Qj e2 h2
   refine⟨b::as,rfl,by simp[h5],λ i b' t' eb et=>?_⟩
   cases i with
   |zero=>simp at eb et;subst eb et;exact⟨h3,h4⟩
   |succ i=>exact h6 i b' t' (by simpa using eb) (by simpa using et)
  ·injection e
theorem HS:∀{ds:List D} {vs:List V},ds.length=vs.length->(∀(i:Nat) d v,ds[i]?=some d->vs[i]?=some v->Rep K O H d v)->aZ K O H ds vs
 |[],[],_,_=> .nil
 |[],_::_,h,_=>by simp at h
 |_::_,[],h,_=>by simp at h
 |d::ds,v::vs,h,p=> .cons (p 0 d v rfl rfl) (HS (by simpa using h) λ i d' v' e1 e2=>p (i+1) d' v' (by simpa using e1) (by simpa using e2))
end
section
variable {X:Cx}
theorem Ut (hu:X.A.units+2 < cLine):CallD X (.builtin "sorted") vg:=by
 refine⟨_,aa2 hu,λ ρ O σ H Q xs ds j r h=>?_⟩
 replace h:=Mv h
 refine bc λ zQ=>?_
 obtain⟨es,rfl,h⟩:=h
 apply zQ;clear zQ
 ·skip
  refine bc λ zQ=>?_
  obtain⟨x,rfl,rx⟩:=r.one
  obtain⟨a,ys,rfl,hq,hna,rs⟩:=rx.lst
  apply zQ;clear zQ
  refine bc λ zQ=>?_
  cases e:pF es with
  |none=>rw[e] at h;exact h.elim
  | some ts =>
   apply zQ;clear zQ
   rw[e] at h
   have h:good X (rD X) O (if ts.length < 64/\ts.Nodup then R.ok (.lst ((mC ts).map jU)) else .bad) σ H Q:=h
   by_cases hl:ts.length < 64/\ts.Nodup
   ·rw [if_pos hl] at h
    refine bc λ zQ=>?_
    obtain⟨as,rfl,h1,h2⟩:=Qj e rs
    apply zQ;clear zQ
    refine⟨a,as,ts,rfl,hq,h1,hl.1,hl.2,λ i b t eb et=>(h2 i b t eb et).1,λ B bs hB hbl hp=>?_⟩
    refine h _ _ (Same.upd hB) (Rep.uI hB (j.Dh hB) (HS ?_ λ i d v ed ev=>?_))
    ·rw[List.length_map,List.length_map,(kW ts).length_eq,hbl]
    ·rw [List.getElem?_map] at ed ev
     refine bc λ zQ=>?_
     cases q1:(mC ts)[i]? with
     |none=>rw[q1] at ed;injection ed
     | some t=>
      apply zQ;clear zQ
      refine bc λ zQ=>?_
      cases q2:bs[i]? with
      |none=>rw[q2] at ev;injection ev
      | some b=>
       apply zQ;clear zQ
       rw[q1] at ed;rw[q2] at ev
       (injection ed with aH;subst aH);(injection ev with aH;subst aH)
       refine bc λ zQ=>?_
       obtain⟨_,k,z1,z2⟩:=hp i b t q2 q1
       apply zQ;clear zQ
       exact (h2 k b t z1 z2).2
   ·rw[if_neg hl] at h;exact h.elim
end
section
variable {X:Cx} {e:Expr} {f:aq->R D} {pos:Pos}
theorem ahq (i k m:Nat) {x y z:Str} {px py pz pt:Pos} {kt} (hc:X.calm=true) (hN:X.N.Nodup) (he:DE X e f) (hi:autoParam (X.N[i]?=some x) bB._auto_1) (hk:autoParam (X.N[k]?=some y) bB._auto_1) (hm:autoParam (X.N[m]?=some z) bB._auto_1)
  (hx:autoParam (Loc X.env.scope x) ug._auto_1) (hy:autoParam (Loc X.env.scope y) ug._auto_1) (hz:autoParam (Loc X.env.scope z) ug._auto_1)
  (hfx:autoParam (X.fn x=true\/X.env.scope.names.lookup x=some .local) uh._auto_1) (Tz:autoParam (X.fn y=true\/X.env.scope.names.lookup y=some .local) uh._auto_1) (hfz:autoParam (X.fn z=true\/X.env.scope.names.lookup z=some .local) uh._auto_1)
  (hs:autoParam (swapsWithSole [.Tuple [.Name x px,.Name y py,.Name z pz] kt pt] e pos.line X.env=pure false) bB._auto_1) (hw:autoParam (swappedStores [.Tuple [.Name x px,.Name y py,.Name z pz] kt pt] e X.env=pure none) bB._auto_1):
  DS X (.Assign [.Tuple [.Name x px,.Name y py,.Name z pz] kt pt] e pos) (bV f (eV (eX 3 (bR (aV i) (bR (aV k) (bR (aV m) nilG)))))):=by
 refine PS.imp (ps_asg he (pg_tup hc (pgs_cons (pg_name hN hi hx hfx) (pgs_cons (pg_name hN hk hy Tz) (pgs_cons (pg_name hN hm hz hfz) pgs_nil)))) hs hw) λ σ H E h=>?_
 refine bc λ zQ=>?_
 obtain⟨H0,O0,O,ρ,j,h⟩:=h
 apply zQ;clear zQ
 refine⟨ρ,O,j.inn,?_⟩
 unfold bV nP at h
 cases e1:f ρ with
 |bad=>rw[e1] at h;exact h
 |err c=>rw[e1] at h;exact h σ H O j
 | ok d=>
  rw[e1] at h
  intro v H' s r
  refine bc λ zQ=>?_
  cases d with
  | tup ds=>
   apply zQ;clear zQ
   match ds,h,r with
   |[],h,_=>exact h.elim
   |[_],h,_=>exact h.elim
   |[_,_],h,_=>exact h.elim
   |_::_::_::_::_,h,_=>exact (show False by simpa[eV,eX,sI] using h).elim
   | [d1,d2,d3],h,r=>
    refine bc λ zQ=>?_
    obtain⟨a,xs,rfl,hq,rs⟩:=r.tup
    obtain⟨v1,v2,v3,rfl,r1,r2,r3⟩:=rs.three
    apply zQ;clear zQ
    refine⟨a,[v1,v2,v3],rfl,hq,rfl,v1,[v2,v3],rfl,v2,[v3],rfl,v3,[],rfl,rfl,?_⟩
    exact h _ H' O ((((j.grow s).set (List.getElem?_eq_some_iff.mp hi).1 r1).set (List.getElem?_eq_some_iff.mp hk).1 r2).set (List.getElem?_eq_some_iff.mp hm).1 r3) (Same.gY s)
  |_=>exact h.elim
end
section
variable {X:Cx} {e:Expr} {f:aq->R D}
noncomputable def aot:D->R Bool
 | .lst ds=> .ok (!ds.isEmpty)
 | .tup ds=> .ok (!ds.isEmpty)
 |_=> .bad
noncomputable def Uu (f:aq->R D):aq->R Bool:=λ ρ=>(f ρ).bind aot
theorem aZ.empty {K:PySem.W.Frag} {O:Addr->Prop} {H:Hp} {ds:List D} {vs:List V} (r:aZ K O H ds vs):ds.isEmpty=vs.isEmpty:=by
 have:=r.length
 cases ds <;> cases vs <;> simp_all
theorem adC (h:DE X e f) (he:autoParam (∀whole,isTrue e X.env whole=(do let v <-whole;standAt e.pos;holding [v] (truthy v))) ZL._auto_1):DT X e (Uu f):=by
 refine PT.imp (pt_truth h he) λ σ H Q h=>?_
 obtain⟨ρ,O,j,h⟩:=h
 refine go j h λ d v H1 e1 s1 r1 j1 h1=>?_
 cases d with
 | lst ds=>
  obtain⟨a,xs,rfl,hq,hn,rs⟩:=r1.lst
  exact⟨!xs.isEmpty,.inl ⟨xs,hq,rfl⟩,by rw[<-rs.empty];exact fin h1 rfl⟩
 | tup ds=>
  obtain⟨a,xs,rfl,hq,rs⟩:=r1.tup
  exact⟨!xs.isEmpty,.inr (.inl ⟨xs,hq,rfl⟩),by rw[<-rs.empty];exact fin h1 rfl⟩
 |_=>exact h1.elim
end
theorem Uv {A:Around} {k:Nat} (hr:Room k A):A.units+2 < cLine:=by have:=hr.un;exact akA this
noncomputable def FnS (P:Program) (w:World) (K:PySem.W.Frag) (mg:Str->Option Value) (base:Heap) (k:Nat) (x:Str) (kG n q:Nat) (F:Addr->(List D->R D)->List D->R D):Prop:=
 ∃f fd ps,FnOk P w K mg base CX0 k f fd ps (spS P w mg base kG K n q F)/\mg x=some (.ref f)/\PySem.W.keepIn K (.ref f)=true/\Binds K fd ps []
end Pu
namespace Pu
open PySem PySem.Spec L2
open PyProof.Rows hiding St
theorem HW:∀{xs:List V} {us:List Value},xs.length=us.length->(∀(i:Nat) x u,xs[i]?=some x->us[i]?=some u->RelV x u)->Vals xs us
 |[],[],_,_=> .nil
 |[],_::_,h,_=>by simp at h
 |_::_,[],h,_=>by simp at h
 |x::xs,u::us,h,p=> .cons (p 0 x u rfl rfl) (HW (by simpa using h) λ i d' v' e1 e2=>p (i+1) d' v' (by simpa using e1) (by simpa using e2))
theorem adD {lo:Int} {acc:Array Value} {n:Nat} (h:ItemsOf (λ i v=>∃t,v= .int (lo+i*1) t) acc n):Vals ((List.range n).map λ (i:Nat)=>V.int (lo+(i:Int))) acc.toList:=by
 refine HW (by simp[h.1]) λ i x u e1 e2=>?_
 rw[Array.getElem?_toList] at e2
 obtain⟨t,rfl⟩:=h.2 i u e2
 rw[List.getElem?_map] at e1
 cases q:(List.range n)[i]? with
 |none=>rw[q] at e1;injection e1
 | some k=>
  rw[q] at e1
  have hk:i < n/\i=k:=by simpa[List.getElem?_range] using (List.getElem?_eq_some_iff.mp q)
  obtain⟨_,rfl⟩:=hk
  (injection e1 with aH;subst aH)
  exact⟨t,by rw[Int.mul_one]⟩
section
variable {X:Cx} {a b:Expr} {p pos p2 pos2:Pos} {fa:aq->R (List D)} {ta:TA}
noncomputable def am6 (ta:TA):TE:=λ σ H Q=>ta σ H λ vs H1=>∃i j:Int,vs=[.int i,.int j]/\∀q,H1 q=none->Q (.ref q) (upd H1 q (.rng i j))
theorem ahr (hg:Gl X "range") (hm:X.mg "range" =none) (ha:PA X [a,b] ta) (hs:autoParam (starEach [a,b] X.env=[(false,eval a X.env),(false,eval b X.env)]) bB._auto_1) (hs2:autoParam (starEach [b] X.env=[(false,eval b X.env)]) bB._auto_1):PE X (.Call (.Name "range" p) [a,b] [] pos) (am6 ta):=by
 intro pins s σ H Q I h
 refine Call_ (ld_blt I hg hm boot_range (PyProof.Rows.callWith_type1 (thn (ha pos pins s σ H _ I h) λ us s1 ⟨vs,H1,I1,r1,q1⟩=>?_) (by rw[hs,hs2]) (by rw[hs2];rfl)))
 obtain⟨i,j,e,q⟩:=q1
 subst e
 cases r1 with
 | cons r rr=>
  cases rr with
  | cons r' rr=>
   cases rr
   obtain⟨t,rfl⟩:=r
   obtain⟨t',rfl⟩:=r'
   refine call_range_2 ?_
   exact⟨.ref s1.heap.objs.size,upd H1 s1.heap.objs.size (.rng i j),I1.laid (λ b o e=>Heap.get?_push_of_some _ e) (z0g _) ⟨_,_,_,Heap.get?_push_size _ rfl⟩,rfl,q _ (I1.hok.fresh (z0g _))⟩
theorem adE (hc:X.calm=true):CallR X (.type "list") (λ xs H Q=>∃(b:Addr) (i j:Int),xs=[.ref b]/\H b=some (.rng i j)/\-1000<=i/\i<=1000/\-1000<=j/\j<=1000/\∀B,H B=none->Q (.ref B) (upd H B (.lst ((List.range (j - i).toNat).map λ (k:Nat)=>V.int (i+(k:Int)))))):=by
 intro pins s σ H xs us Q I r h
 refine bc λ zQ=>?_
 obtain⟨b,i,j,rfl,hb,h0,h1,h2,h3,q⟩:=h
 obtain⟨u,rfl,rx⟩:=vals1 r
 apply zQ;clear zQ
 obtain rfl:=rx
 refine bc λ zQ=>?_
 obtain⟨t,u,v,hr⟩:=(show ObjOk X.prog X.w H s.heap b (.rng i j) from I.hok b _ hb)
 apply zQ;clear zQ
 have hn:Builtin.Range.rangeSize i j 1=(((j - i).toNat:Nat):Int):=by rw[rangeSize_one];split <;> (first |exact akB (by assumption) |exact akC (by assumption))
 refine call_list_range (I.ok.hd hc) hr (small_one (by exact agz h0) (by exact agA h1) (by exact agz h2) (by exact agA h3)) hn (by exact alP h0 h3) λ h' tk acc c' hk he hacc=>?_
 have hf:H s.heap.objs.size=none:=I.hok.fresh (z0g _)
 refine⟨.ref s.heap.objs.size,_,I.laid (t':=tk) (o:= .lst ((List.range (j - i).toNat).map λ (k:Nat)=>V.int (i+(k:Int)))) hk (z0g _) ⟨?_,acc.toList,c',adD hacc,by simpa using he⟩,rfl,q _ hf⟩
 rw[List.length_map,List.length_range]
 exact z0b (by exact akD h0 h3) (z0e jO)
theorem aa5 {K:PySem.W.Frag} {O:Addr->Prop} {H:Hp} {lo:Int} {n:Nat}:aZ K O H (upto lo n) ((List.range n).map λ (i:Nat)=>V.int (lo+(i:Int))):=by
 unfold upto
 generalize List.range n=l
 induction l with
 |nil=>exact .nil
 |cons x l ih=>exact .cons (cO _) ih
noncomputable def aoF:List D->R D
 |[.int j]=>if 0<=j/\j<=1000 then .ok (.lst (upto 0 j.toNat)) else .bad
 |_=> .bad
noncomputable def aa6:List D->R D:=aaM λ i j=>if -1000<=i/\i<=1000/\-1000<=j/\j<=1000 then .ok (.lst (upto i (j - i).toNat)) else .bad
theorem aox (i j:Int):aa6 [.int i,.int j]=(if -1000<=i/\i<=1000/\-1000<=j/\j<=1000 then .ok (.lst (upto i (j - i).toNat)) else .bad):=rfl
theorem afB (hc:X.calm=true) (hg:Gl X "list") (hm:X.mg "list" =none) (hg2:Gl X "range") (hm2:X.mg "range" =none) (ha:DA X [a,b] fa) (hs2:autoParam (starEach [a,b] X.env=[(false,eval a X.env),(false,eval b X.env)]) bB._auto_1) (hs3:autoParam (starEach [b] X.env=[(false,eval b X.env)]) bB._auto_1)
  (he:autoParam (starEach [.Call (.Name "range" p) [a,b] [] pos] X.env=(false,eval (.Call (.Name "range" p) [a,b] [] pos) X.env)::starEach [] X.env) bB._auto_1) (hpl:autoParam ((backTo pos2 (starEach [] X.env)).any (·.1)=false) bB._auto_1):
  DE X (.Call (.Name "list" p2) [.Call (.Name "range" p) [a,b] [] pos] [] pos2) (aF aa6 fa):=by
 refine PE.imp (pe_callTy (adE hc) hg hm boot_list (pa_cons (ahr hg2 hm2 ha hs2 hs3) pa_nil he) (by decide) (by decide) he hpl) λ σ H Q q=>?_
 obtain⟨ρ,O,j,q⟩:=q
 refine go j q λ ds vs H1 e1 s1 r1 j1 h1=>?_
 replace h1:=Mu h1
 obtain⟨i,k,rfl,h1⟩:=h1
 ·skip
  obtain⟨x,y,rfl,rx,ry⟩:=r1.two
  by_cases hi: -1000<=i/\i<=1000/\-1000<=k/\k<=1000
  ·rw[if_pos hi] at h1
   refine⟨i,k,by rw[rx.int,ry.int],λ q hq=>⟨q,i,k,rfl,upd_same,hi.1,hi.2.1,hi.2.2.1,hi.2.2.2,λ B hB=>?_⟩⟩
   have s2:Same H1 (upd H1 q (.rng i k)):=Same.upd hq
   exact h1 _ _ (s2.trans (Same.upd hB)) (Rep.uI hB ((j1.same s2).Dh hB) aa5)
  ·rw[if_neg hi] at h1;exact h1.elim
end
end Pu
namespace Pu
open PySem PySem.Spec PySem.W L2
open PyProof.Rows hiding St
section
variable {prog:Program} {w:World} {A:Around} {s:Shared}
noncomputable def EqB (prog:Program) (w:World) (A:Around) (s:Shared) (u v:Value) (b:Bool):Prop:=∀(Q:Bool->Shared->Prop) (E:Value->Shared->Prop),Q b s->wpAny (model prog w) A (eqBool u v) Q E s
noncomputable def LtB (prog:Program) (w:World) (A:Around) (s:Shared) (u v:Value) (b:Bool):Prop:=∀(Q:Value->Shared->Prop) (E:Value->Shared->Prop),Q (.bool b) s->wpAny (model prog w) A (compareOp .Lt u v) Q E s
inductive Lx (prog:Program) (w:World) (A:Around) (s:Shared) (r:Bool):List Value->List Value->Prop
 |nil:r=false->Lx prog w A s r [] []
 |yes {u v xs ys}:EqB prog w A s u v true->Lx prog w A s r xs ys->Lx prog w A s r (u::xs) (v::ys)
 |no {u v xs ys}:EqB prog w A s u v false->LtB prog w A s u v r->Lx prog w A s r (u::xs) (v::ys)
theorem X8 {E:Value->Shared->Prop} {a b:Addr} {oa ob:Obj} {xs ys:Array Value} {na nb:Nat} {r:Bool} {P:PySem.Fin->Shared->Prop} (hoa:s.heap.get? a=some oa) (hda:oa.data= .seq xs na) (hob:s.heap.get? b=some ob) (hcb:ob.cls= .type "tuple") (hdb:ob.data= .seq ys nb)
  (hl:Lx prog w A s r xs.toList ys.toList) (hsz:xs.size=ys.size) (h:P (.done (.ret (.bool r))) s):
  wpAny (model prog w) A (Builtin.«tuple.__lt__» ⟨[.ref a,.ref b],[]⟩) P E s:=by
 have hTb:s.TypeIs (.ref b) "tuple" :=⟨ob,hob,hcb⟩
 show wpAny _ _ (isInstance (.ref b) (.type "tuple") >>=_) _ _ s
 refine wpAny_bind (wpAny_isInstance hTb isSubtype_tuple_tuple ?_)
 simp only[Bool.not_true,Bool.false_eq_true,if_false]
 refine wpAny_bind (wpAny_tupleItemsOf hoa hda ?_)
 refine wpAny_bind (wpAny_tupleItemsOf hob hdb ?_)
 refine wpAny_bind ?_
 refine wpAny_forIn_list _
  (λ rest q s'=>q.1=none/\s'=s/\∃xs' ys',rest=List.zip xs' ys'/\Lx prog w A s r xs' ys')
  _ ?_ ?_ _ _ ⟨rfl,rfl,xs.toList,ys.toList,rfl,hl⟩
 ·rintro⟨u,v⟩ rest q s' ⟨hr,rfl,xs',ys',hz,hx'⟩
  cases hx' with
  |nil _=>simp at hz
  | yes he hx''=>
   simp only[List.zip_cons_cons,List.cons.injEq,Prod.mk.injEq] at hz
   obtain⟨⟨rfl,rfl⟩,rfl⟩:=hz
   refine wpAny_bind (he _ _ ?_)
   simp only[Bool.not_true,Bool.false_eq_true,if_false]
   exact wpAny_pure ⟨rfl,rfl,_,_,rfl,hx''⟩
  | no he hlt=>
   simp only[List.zip_cons_cons,List.cons.injEq,Prod.mk.injEq] at hz
   obtain⟨⟨rfl,rfl⟩,rfl⟩:=hz
   refine wpAny_bind (he _ _ ?_)
   simp only[Bool.not_false,if_true]
   refine wpAny_bind (wpAny_rule ?_)
   refine wpAny_bind (m:=richCompare .Lt u v) (show wpAny _ _ (compareOp .Lt u v) _ _ _ from hlt _ _ ?_)
   first
    |exact wpAny_pure (wpAny_pure h)
    |exact wpAny_bind (wpAny_pure (wpAny_pure (wpAny_pure h)))
    |exact wpAny_bind (wpAny_pure (wpAny_pure h))
 ·rintro⟨r1,r2⟩ s' ⟨hr,rfl,xs',ys',hz,hx'⟩
  simp only at hr
  subst hr
  refine wpAny_pure ?_
  have hfin:decide (xs.size < ys.size)=r:=by
   cases hx' with
   |nil e=>rw[e];exact decide_eq_false (by exact alQ hsz)
   |yes _ _=>simp at hz
   |no _ _=>simp at hz
  show P (.done (.ret (.bool (decide (xs.size < ys.size))))) s'
  rw[hfin];exact h
theorem Hx {i j:Int} {t u:Tok} {b:Bool} (e:(i ==j)=b):EqB prog w A s (.int i t) (.int j u) b:=λ Q E h=>wpAny_eqBool_int (by rw[e];exact h)
theorem aal {i j:Int} {t u:Tok}:LtB prog w A s (.int i t) (.int j u) (decide (i < j)):=λ Q E h=>lt_int h
theorem ahs {x y:Addr} {l c l' c':Int} {ps qs:List Int} (hu:A.units < cLine) (hx:jm s.heap x l c ps) (hy:jm s.heap y l' c' qs):∃(oa ob:Obj) (xs ys:Array Value) (na nb:Nat),s.heap.get? x=some oa/\oa.cls= .type "tuple"/\oa.data= .seq xs na/\s.heap.get? y=some ob/\ob.cls= .type "tuple"/\ob.data= .seq ys nb/\xs.size=ys.size/\Lx prog w A s (fV (l::c::ps) (l'::c'::qs)) xs.toList ys.toList:=by
 obtain⟨o,o2,n,n2,t,u,p,vs,h1,h2,h3,h4,h5,h6,h7⟩:=hx
 obtain⟨o',o2',n',n2',t',u',p',vs',g1,g2,g3,g4,g5,g6,g7⟩:=hy
 refine⟨o,o',_,_,n,n',h1,h2,h3,g1,g2,g3,rfl,?_⟩
 show Lx prog w A s _ [.int l t,.int c u,.ref p] [.int l' t',.int c' u',.ref p']
 rw[fV,fV]
 by_cases e1:l=l'
 ·rw [if_pos e1]
  refine .yes (Hx (by simpa using e1)) ?_
  by_cases e2:c=c'
  ·rw[if_pos e2]
   refine .yes (Hx (by simpa using e2)) ?_
   have eq:EqB prog w A s (.ref p) (.ref p') (decide (ps=qs)):=λ Q E h=>wpAny_eqBool_tuple (knd:=intKind prog w) hu ⟨o2,vs,n2,h4,h5,h6,vf h7⟩ ⟨o2',vs',n2',g4,g5,g6,vf g7⟩ h
   by_cases e3:ps=qs
   ·rw[decide_eq_true e3] at eq
    exact .yes eq (.nil (by rw[e3];exact pD _))
   ·rw[decide_eq_false e3] at eq
    exact .no eq λ Q E h=>aak hu h4 h5 h6 g4 g5 g6 h7 g7 h
  ·rw[if_neg e2]
   exact .no (Hx (by simpa using e2)) aal
 ·rw[if_neg e1]
  exact .no (Hx (by simpa using e1)) aal
theorem Uw {E:Value->Shared->Prop} {a b:Addr} {l c l' c':Int} {ps qs:List Int} {P:PySem.Fin->Shared->Prop} (hu:A.units < cLine) (hx:jm s.heap a l c ps) (hy:jm s.heap b l' c' qs) (h:P (.done (.ret (.bool (fV (l::c::ps) (l'::c'::qs))))) s):
  wpAny (model prog w) A (Builtin.«tuple.__lt__» ⟨[.ref a,.ref b],[]⟩) P E s:=by
 obtain⟨oa,ob,xs,ys,na,nb,h1,h2,h3,h4,h5,h6,h7,h8⟩:=ahs (prog:=prog) (w:=w) hu hx hy
 exact X8 h1 h3 h4 h5 h6 h8 h7 h
theorem afC {E:Value->Shared->Prop} {a b:Addr} {l c l' c':Int} {ps qs:List Int} {Q:Value->Shared->Prop} (hu:A.units+2 < cLine) (hx:jm s.heap a l c ps) (hy:jm s.heap b l' c' qs) (h:Q (.bool (fV (l::c::ps) (l'::c'::qs))) s):wpAny (model prog w) A (compareOp .Lt (.ref a) (.ref b)) Q E s:=by
 obtain⟨oa,o2,n,n2,t,u,p,vs,h1,h2,_⟩:=id hx
 obtain⟨ob,o2',n',n2',t',u',p',vs',g1,g2,_⟩:=id hy
 show wpAny _ _ (richCompare .Lt (.ref a) (.ref b)) _ _ _
 refine wpAny_richCompare_same_room (op:= .Lt) ⟨oa,h1,h2⟩ ⟨ob,g1,g2⟩ PySem.F.slot_tuple_lt
   (wpAny_call_entry PySem.F.slot_tuple_lt ⟨oa,h1,h2⟩ PySem.F.entry_tuple_lt (Uw ?_ hx hy ⟨_,rfl,(λ e=>nomatch e),h⟩) (PySem.F.args_tuple_lt_2 _ _)) (by exact alR hu)
 first |exact z0c (by simp) hu |(show A.units+_ < cLine;omega)
end
section
variable {X:Cx}
theorem ajc (hu:X.A.units+2 < cLine):OpR X (compareOp .Lt) (λ x y H Q=>∃a b,∃ns ms:List Int,x= .ref a/\y= .ref b/\Hw X.K H a ns/\Hw X.K H b ms/\Q (.bl (fV ns ms)) H):=by
 intro pins s σ H x y v u Q I rx ry h
 obtain⟨a,b,ns,ms,rfl,rfl,ha,hb,q⟩:=h
 obtain rfl:=rx
 obtain rfl:=ry
 obtain⟨l,c,ps,rfl,h1⟩:=Ng I ha
 obtain⟨l',c',qs,rfl,h2⟩:=Ng I hb
 exact afC hu h1 h2 ⟨.bl _,H,I,rfl,q⟩
noncomputable def Ux (x y:D):R D:=match oA x,oA y with
 |some a,some b=> .ok (.bl (fV a b))
 |_,_=> .bad
theorem ajd (hu:X.A.units+2 < cLine):kJ X (compareOp .Lt) Ux:=by
 refine⟨_,ajc hu,λ ρ O σ H Q x y dx dy j0 rx ry h=>?_⟩
 unfold Ux at h
 cases e1:oA dx with
 |none=>rw[e1] at h;exact h.elim
 | some ns=>
  cases e2:oA dy with
  |none=>rw[e1,e2] at h;exact h.elim
  | some ms=>
   rw[e1,e2] at h
   obtain⟨a,rfl,ha,_⟩:=Jj e1 rx
   obtain⟨b,rfl,hb,_⟩:=Jj e2 ry
   exact⟨a,b,ns,ms,rfl,rfl,ha,hb,fin h (gb _)⟩
end
end Pu
namespace Pu
open PySem PySem.Spec L2
open PyProof.Rows hiding St
section
variable {X:Cx} {pins:List (Addr×Obj)} {σ:St} {H:Hp} {s:Shared}
end
section
variable {X:Cx} {qual:Str} {params:Arguments} {body:Expr} {scope:Scope} {xS:Str} {cc P fS:Addr} {Ul:FuncData} {Qg:List Str} {kS kG q:Nat} {FS:Addr->(List D->R D)->List D->R D} {GG:List D->R D} {p p4 pos2 aja:Pos} {e1 e2 e3:Expr} {f1 f2 f3:aq->R D}
end
end Pu
namespace Pu
open PySem PySem.Spec PySem.W L2
open PyProof.Rows hiding St
section
variable {prog:Program} {w:World} {A:Around} {R:Result->Shared->Prop} {I l S:Addr} {its:Array Value} {h0:Heap} {bt:Nat->Nat->Bool}
end
section
variable {prog:Program} {w:World} {A:Around} {E:Value->Shared->Prop} {s:Shared} {l:Addr} {its:Array Value} {bt:Nat->Nat->Bool} {Q:Value->Shared->Prop}
end
end Pu
namespace Pu
open PySem PySem.Spec PySem.W L2
open PyProof.Rows hiding St
section
variable {X:Cx}
end
end Pu
namespace Pu
open PySem PySem.Spec PySem.W L2
open PyProof.Rows hiding St
open PySem.SeqAt
section
variable {X:Cx} {e1 e2:Expr} {f g:aq->R D}
end
end Pu
namespace Pu
open PySem PySem.Spec L2
open PyProof.Rows hiding St
theorem range_any (bs:List Bool):((List.range bs.length).any λ i=>(bs[i]?).getD false)=bs.any id:=by
 apply Bool.eq_iff_iff.mpr
 rw[List.any_eq_true,List.any_eq_true]
 constructor
 ·rintro⟨i,hi,h⟩
  have hi:=List.mem_range.mp hi
  rw[List.getElem?_eq_getElem hi,Option.getD_some] at h
  exact⟨_,List.getElem_mem hi,h⟩
 ·rintro⟨b,hb,h⟩
  obtain⟨i,hi,rfl⟩:=List.getElem_of_mem hb
  exact⟨i,List.mem_range.mpr hi,by rw[List.getElem?_eq_getElem hi];exact h⟩
section
variable {X:Cx}
theorem adF (hc:X.calm=true):CallR X (.builtin "any") (λ xs H Q=>∃p,∃bs:List Bool,xs=[.ref p]/\SqL X.K H p (bs.map V.bl)/\Q (.bl (bs.any id)) H):=by
 intro pins s σ H xs us Q I r h
 obtain⟨p,bs,rfl,hq,q⟩:=h
 obtain⟨u,rfl,rx⟩:=vals1 r
 obtain rfl:=rx
 obtain⟨its,r',pl,hz⟩:=I.list hq
 have hb:=Ja r'
 have hl:=pl.isList
 have hlt:p < s.heap.objs.size:=by obtain⟨_,e,_⟩:=hl;exact Heap.lt_size e
 refine call_any_walk (wpAny_pyIter_list hl ⟨s.heap.objs.size,[s.heap.objs.size,p],[s.heap.objs.size],its.toArray.size,_,_,λ i=>(bs[i]?).getD false,rfl,Walks.list (A:=X.A.in1) (I.ok.hd hc) _ p (Nat.ne_of_lt hlt) its.toArray,⟨⟨_,Heap.get?_push_size _ rfl,rfl,rfl⟩,hl.push _⟩,λ i v s' Q' E' hP hQ=>?_,λ h' tk hk=>?_⟩)
 ·obtain⟨b,e,rfl⟩:=hb.get i v (by simpa using hP)
  simp only[e,Option.getD_some] at hQ
  exact wpAny_truthy_bool hQ
 ·have e:((List.range its.toArray.size).any λ i=>(bs[i]?).getD false)=bs.any id:=by
   rw[List.size_toArray,hb.length];exact range_any bs
  rw[e]
  exact⟨.bl _,H,I.kept (LSm.kept_iter hk),rfl,q⟩
noncomputable def aa7:List D->R D:=aaN λ ds=>match boolsOf ds with
  |some bs=> .ok (.bl (bs.any id))
  |none=> .bad
theorem aoD (ds:List D):aa7 [.lst ds]=(match boolsOf ds with
  |some bs=> .ok (.bl (bs.any id))
  |none=> .bad):=rfl
theorem aje (hc:X.calm=true):CallD X (.builtin "any") aa7:=by
 refine⟨_,adF hc,λ ρ O σ H Q xs ds j r h=>?_⟩
 replace h:=Mv h
 obtain⟨ds,rfl,h⟩:=h
 ·skip
  obtain⟨x,rfl,rx⟩:=r.one
  obtain⟨a,ys,rfl,hq,_,rs⟩:=rx.lst
  cases e:boolsOf ds with
  |none=>rw[e] at h;exact h.elim
  | some bs=>
   rw[e] at h
   have ey:=MJ e rs
   subst ey
   exact⟨a,bs,rfl,hq,fin h (gb _)⟩
end
section
variable {X:Cx} {e:Expr} {f:aq->R D} {pos:Pos}
end
end Pu
namespace Pu
open PySem PySem.Spec PySem.W L2
open PyProof.Rows hiding St
section
variable {prog:Program} {w:World} {A:Around} {E:Value->Shared->Prop} {s:Shared}
end
section
variable {X:Cx}
end
end Pu
namespace gZ
open PySem PySem.Spec L2 Pu
open PyProof.Rows hiding St
noncomputable def vm:aq->So:=(bA (bV (bin (λ Z=> .ok (.int 7)) (λ ρ=>ak ρ 1) ji) (aV 3)) (bA (gj (cL (bin (λ ρ=>ak ρ 0) (jN (λ Z=> .ok [])) jW)) (bA (bV (bin (λ ρ=>ak ρ 0) (bin (λ ρ=>ak ρ 1) (aF cM (ao (λ ρ=>ak ρ 0) (λ Z=> .ok []))) ig) bZ) (aV 3)) (bA (bV (bin (λ ρ=>ak ρ 1) (aF cM (ao (λ ρ=>ak ρ 0) (λ Z=> .ok []))) jw) (aV 4)) (bA (gj (o7 (cL (bin (λ ρ=>ak ρ 3) (bin (λ Z=> .ok (.int 10)) (λ Z=> .ok (.int 18)) xr) geI)) (cL (bin (λ ρ=>ak ρ 4) (λ Z=> .ok (.int 60)) ltI))) (bA (bV (bin (λ ρ=>ak ρ 3) (bin (λ Z=> .ok (.int 10)) (λ Z=> .ok (.int 18)) xr) jw) (aV 5)) (bA (jk (o7 (cL (bin (λ ρ=>ak ρ 5) (λ Z=> .ok (.int 0)) zf)) (cL (bin (λ ρ=>ak ρ 4) (λ Z=> .ok (.int 0)) zf))) (bA (bV (bin (λ ρ=>ak ρ 5) (λ Z=> .ok (.int 1000000)) jw) (aV 5)) (bV (bin (λ ρ=>ak ρ 4) (λ Z=> .ok (.int 1)) dX) (aV 4))) 64) (gj (cL (bin (λ ρ=>ak ρ 5) (λ Z=> .ok (.int 0)) zf)) (retS (bin (bin (λ ρ=>ak ρ 5) (λ Z=> .ok (.int 1000000)) ig) (λ ρ=>ak ρ 2) ig)) So.nx))) So.nx) (bV (bin (λ ρ=>ak ρ 3) (bin (λ Z=> .ok (.int 6553)) (bin (λ ρ=>ak ρ 1) (aF cM (ao (λ ρ=>ak ρ 0) (λ Z=> .ok []))) jw) ji) fY) (aV 3))))) So.nx) (bA (bV (bin (bin (bin (bin (λ ρ=>ak ρ 3) (λ Z=> .ok (.int 2147483563)) ig) (λ Z=> .ok (.int 69069)) ji) (bin (λ Z=> .ok (.int 104723)) (bin (λ ρ=>ak ρ 1) (λ Z=> .ok (.int 1)) fY) ji) fY) (λ Z=> .ok (.int 2147483563)) ig) (aV 3)) (bA (bV (bin (bin (bin (λ ρ=>ak ρ 3) (λ ρ=>ak ρ 3) ji) (bin (λ ρ=>ak ρ 3) (λ Z=> .ok (.int 3)) jw) fY) (λ Z=> .ok (.int 2147483399)) ig) (aV 3)) (retS (bin (bin (bin (bin (bin (λ ρ=>ak ρ 3) (λ ρ=>ak ρ 3) ji) (bin (λ ρ=>ak ρ 3) (λ Z=> .ok (.int 7)) jw) fY) (λ Z=> .ok (.int 2147483647)) ig) (λ Z=> .ok (.int 11)) jw) (λ ρ=>ak ρ 2) ig))))))
noncomputable def bU:List D->R D:=cT 3 vm
noncomputable def DQ:aq->So:=(retS (bin (bin (λ ρ=>ak ρ 0) (aF maxD (ao (λ Z=> .ok (.int 0)) (ao (aF minD (ao (bin (aF cM (ao (λ ρ=>ak ρ 0) (λ Z=> .ok []))) (λ Z=> .ok (.int 1)) dX) (ao (λ ρ=>ak ρ 2) (λ Z=> .ok [])))) (λ Z=> .ok [])))) bZ) (aF maxD (ao (λ Z=> .ok (.int 0)) (ao (aF minD (ao (bin (aF cM (ao (bin (λ ρ=>ak ρ 0) (λ Z=> .ok (.int 0)) bZ) (λ Z=> .ok []))) (λ Z=> .ok (.int 1)) dX) (ao (λ ρ=>ak ρ 1) (λ Z=> .ok [])))) (λ Z=> .ok [])))) bZ))
noncomputable def gQ:List D->R D:=cT 0 DQ
noncomputable def xH:aq->So:=(bA (bV (aF u9 (ao (bin (aF (bh gQ 3) (ao (λ ρ=>ak ρ 0) (ao (bin (λ ρ=>ak ρ 2) (λ Z=> .ok (.int 1)) dX) (ao (λ ρ=>ak ρ 3) (λ Z=> .ok []))))) (aF (bh gQ 3) (ao (λ ρ=>ak ρ 0) (ao (bin (λ ρ=>ak ρ 2) (λ Z=> .ok (.int 1)) cF) (ao (λ ρ=>ak ρ 3) (λ Z=> .ok []))))) dX) (λ Z=> .ok []))) (aV 5)) (bA (gj (cL (bin (λ ρ=>ak ρ 1) (λ Z=> .ok (.str "worth")) nW)) (retS (bin (λ ρ=>ak ρ 5) (aF u9 (ao (bin (aF (bh gQ 3) (ao (λ ρ=>ak ρ 0) (ao (λ ρ=>ak ρ 2) (ao (bin (λ ρ=>ak ρ 3) (λ Z=> .ok (.int 1)) dX) (λ Z=> .ok []))))) (aF (bh gQ 3) (ao (λ ρ=>ak ρ 0) (ao (λ ρ=>ak ρ 2) (ao (bin (λ ρ=>ak ρ 3) (λ Z=> .ok (.int 1)) cF) (λ Z=> .ok []))))) dX) (λ Z=> .ok []))) cF)) So.nx) (bA (gj (o7 (cL (bin (λ ρ=>ak ρ 4) (λ Z=> .ok .non) adk)) (cL (bin (λ ρ=>ak ρ 4) (λ ρ=>ak ρ 2) jW))) (bV (bin (λ ρ=>ak ρ 5) (aF u9 (ao (bin (bin (bin (λ ρ=>ak ρ 0) (bin (λ ρ=>ak ρ 3) (λ Z=> .ok (.int 1)) dX) bZ) (λ ρ=>ak ρ 2) bZ) (bin (bin (λ ρ=>ak ρ 0) (λ ρ=>ak ρ 3) bZ) (Dk (cL (bin (λ ρ=>ak ρ 4) (λ ρ=>ak ρ 2) ltI)) (bin (λ ρ=>ak ρ 2) (λ Z=> .ok (.int 1)) dX) (bin (λ ρ=>ak ρ 2) (λ Z=> .ok (.int 1)) cF)) bZ) dX) (λ Z=> .ok []))) cF) (aV 5)) So.nx) (retS (λ ρ=>ak ρ 5)))))
noncomputable def gq:List D->R D:=cT 1 xH
noncomputable def xJ:aq->So:=(bA (bV (bin (dh (ao (λ Z=> .ok .non) (λ Z=> .ok []))) (dG (λ ρ=>ak ρ 2) (λ Z=> .ok none) (λ ρ=>(((tu (λ Z=> .ok (.int 1))):aq->R D) ρ).bind ou)) cF) (aV 3)) (retS (aF TQ (ao (cj 2 [3,1,0] (λ ρ=>((ao (λ ρ=>ak ρ 2) (λ Z=> .ok [])) ρ).bind rY) (eV (eX 2 (bR (aV 0) (bR (aV 1) nilG)))) (λ Z=> .ok true) (aF (bh gq 5) (ao (λ ρ=>ak ρ 4) (ao (λ ρ=>ak ρ 3) (ao (λ ρ=>ak ρ 1) (ao (λ ρ=>ak ρ 0) (ao (bin (λ ρ=>ak ρ 2) (λ ρ=>ak ρ 0) bZ) (λ Z=> .ok [])))))))) (λ Z=> .ok [])))))
noncomputable def jR:List D->R D:=cT 1 xJ
noncomputable def vo:aq->So:=(retS (aF cM (ao (cj 2 [2] (λ ρ=>((ao (λ ρ=>ak ρ 0) (ao (λ ρ=>ak ρ 1) (λ Z=> .ok []))) ρ).bind zip2) (eV (eX 2 (bR (aV 0) (bR (aV 1) nilG)))) (cL (bin (bin (λ ρ=>ak ρ 0) (λ ρ=>ak ρ 1) bZ) (λ ρ=>ak ρ 2) nW)) (λ ρ=>ak ρ 1)) (λ Z=> .ok []))))
noncomputable def gR:List D->R D:=cT 0 vo
noncomputable def wyI:aq->So:=(bV (bin (λ ρ=>ak ρ 4) (cj 1 [0,5] (fB (dh (ao (bin (bin (λ ρ=>ak ρ 5) (tu (λ Z=> .ok (.int 1))) bZ) (λ Z=> .ok (.int 1)) dX) (ao (bin (λ ρ=>ak ρ 5) (tu (λ Z=> .ok (.int 1))) bZ) (ao (bin (bin (λ ρ=>ak ρ 5) (tu (λ Z=> .ok (.int 1))) bZ) (λ Z=> .ok (.int 1)) cF) (λ Z=> .ok [])))))) (aV 0) (o7 (cL (bin (λ Z=> .ok (.int 0)) (λ ρ=>ak ρ 0) HJ)) (cL (bin (λ ρ=>ak ρ 0) (λ ρ=>ak ρ 1) ltI))) (bin (λ ρ=>ak ρ 2) (dh (ao (λ ρ=>ak ρ 0) (λ Z=> .ok []))) cF)) cF) (aV 4))
noncomputable def wyO:aq->So:=(bA (bV (jN (λ Z=> .ok [])) (aV 4)) (bA (pN (fB (λ ρ=>ak ρ 2)) (aV 5) wyI) (bV (λ ρ=>ak ρ 4) (aV 2))))
noncomputable def xK:aq->So:=(bA (bV (cj 1 [] (λ ρ=>((ao (λ ρ=>ak ρ 0) (λ Z=> .ok [])) ρ).bind mF) (aV 0) (λ Z=> .ok true) (dh (ao (λ ρ=>ak ρ 0) (λ Z=> .ok [])))) (aV 2)) (bA (pN (λ ρ=>((ao (bin (λ ρ=>ak ρ 1) (λ Z=> .ok (.int 1)) dX) (λ Z=> .ok [])) ρ).bind mF) (aV 3) wyO) (retS (λ ρ=>ak ρ 2))))
noncomputable def lV:List D->R D:=cT 4 xK
noncomputable def beB:aq->So:=(gj (cL (bin (aF (bh gR 3) (ao (λ ρ=>ak ρ 2) (ao (λ ρ=>ak ρ 4) (ao (λ Z=> .ok (.int 1)) (λ Z=> .ok []))))) (λ Z=> .ok (.int 0)) nW)) (bA (bV (dh (ao (tu (aF (bh gR 3) (ao (λ ρ=>ak ρ 2) (ao (λ ρ=>ak ρ 4) (ao (λ Z=> .ok (.int 2)) (λ Z=> .ok [])))))) (ao (aF (bh jR 3) (ao (λ ρ=>ak ρ 0) (ao (λ ρ=>ak ρ 1) (ao (λ ρ=>ak ρ 4) (λ Z=> .ok []))))) (ao (λ ρ=>ak ρ 4) (λ Z=> .ok []))))) (aV 5)) (bV (Dk (Cw (cL (bin (λ ρ=>ak ρ 3) (λ Z=> .ok .non) isD)) (cL (bin (λ ρ=>ak ρ 5) (λ ρ=>ak ρ 3) Ux))) (λ ρ=>ak ρ 5) (λ ρ=>ak ρ 3)) (aV 3))) So.nx)
noncomputable def xM:aq->So:=(bA (bV (λ Z=> .ok .non) (aV 3)) (bA (pN (fB (aF (bh lV 2) (ao (aF cM (ao (bin (λ ρ=>ak ρ 0) (λ Z=> .ok (.int 0)) bZ) (λ Z=> .ok []))) (ao (aF cM (ao (λ ρ=>ak ρ 0) (λ Z=> .ok []))) (λ Z=> .ok []))))) (aV 4) beB) (retS (Dk (cL (bin (λ ρ=>ak ρ 3) (λ Z=> .ok .non) isD)) (λ Z=> .ok .non) (bin (λ ρ=>ak ρ 3) (λ Z=> .ok (.int 2)) bZ)))))
noncomputable def lW:List D->R D:=cT 3 xM
noncomputable def Av:aq->So:=(retS (aF mJ (ao (cj 2 [] (λ ρ=>((ao (λ ρ=>ak ρ 0) (ao (λ ρ=>ak ρ 1) (λ Z=> .ok []))) ρ).bind zip2) (eV (eX 2 (bR (aV 0) (bR (aV 1) nilG)))) (λ Z=> .ok true) (aF mJ (ao (cj 2 [1] (λ ρ=>((ao (λ ρ=>ak ρ 0) (λ Z=> .ok [])) ρ).bind rY) (eV (eX 2 (bR (aV 0) (bR (aV 1) nilG)))) (cL (bin (λ ρ=>ak ρ 0) (λ ρ=>ak ρ 2) jW)) (λ ρ=>ak ρ 1)) (λ Z=> .ok [])))) (λ Z=> .ok []))))
noncomputable def lA:List D->R D:=cT 0 Av
noncomputable def duT:aq->R Bool:=(cL (bin (cj 1 [] (fB (λ ρ=>ak ρ 1)) (aV 0) (cL (bin (λ Z=> .ok (.int 2)) (λ ρ=>ak ρ 0) (zH false))) (λ ρ=>ak ρ 0)) (jN (λ Z=> .ok [])) jW))
noncomputable def duB:aq->So:=(bA (bV (aF (bh lW 3) (ao (λ ρ=>ak ρ 0) (ao (λ ρ=>ak ρ 2) (ao (λ ρ=>ak ρ 1) (λ Z=> .ok []))))) (aV 4)) (bA (gj (Cw (cL (bin (λ ρ=>ak ρ 4) (λ Z=> .ok .non) isD)) (cL (bin (aF cM (ao (bin (λ ρ=>ak ρ 0) (λ Z=> .ok (.int 0)) bZ) (λ Z=> .ok []))) (λ Z=> .ok (.int 1)) nW))) (retS (λ Z=> .ok .non)) So.nx) (bA (qD 3 (λ ρ=>ak ρ 4)) (Ak 0 1 (aF (bh lA 2) (ao (λ ρ=>ak ρ 0) (ao (λ ρ=>ak ρ 4) (λ Z=> .ok [])))) (aF (bh lA 2) (ao (λ ρ=>ak ρ 1) (ao (λ ρ=>ak ρ 4) (λ Z=> .ok []))))))))
noncomputable def Aw:aq->So:=(bA (newL (λ Z=> .ok []) 3) (bA (jk duT duB 64) (retS (λ ρ=>ak ρ 3))))
noncomputable def iH:List D->R D:=cT 2 Aw
noncomputable def xO:aq->So:=(retS (aF mJ (ao (cj 1 [] (fB (λ ρ=>ak ρ 0)) (aV 0) (λ Z=> .ok true) (bin (dh (ao (λ Z=> .ok (.int 0)) (λ Z=> .ok []))) (aF cM (ao (λ ρ=>ak ρ 0) (λ Z=> .ok []))) vd)) (λ Z=> .ok []))))
noncomputable def eY:List D->R D:=cT 0 xO
noncomputable def tD:aq->So:=(retS (bin (jN (ao (λ Z=> .ok (.str "worth")) (ao (λ Z=> .ok (.str "joins")) (λ Z=> .ok [])))) (aF (bh bU 3) (ao (λ ρ=>ak ρ 0) (ao (λ ρ=>ak ρ 1) (ao (λ Z=> .ok (.int 2)) (λ Z=> .ok []))))) bZ))
noncomputable def jA:List D->R D:=cT 0 tD
noncomputable def mkB:aq->So:=(bA (bV (bin (bin (λ ρ=>ak ρ 1) (λ Z=> .ok (.int 1)) cF) (bin (aF cM (ao (λ ρ=>ak ρ 6) (λ Z=> .ok []))) (λ ρ=>ak ρ 5) vd) cF) (aV 7)) (qD 3 (aF mJ (ao (cj 1 [7,0,4] (λ ρ=>((ao (aF cM (ao (λ ρ=>ak ρ 6) (λ Z=> .ok []))) (λ Z=> .ok [])) ρ).bind mF) (aV 0) (λ Z=> .ok true) (bin (λ ρ=>ak ρ 3) (aF (bh bU 3) (ao (λ ρ=>ak ρ 2) (ao (bin (λ ρ=>ak ρ 1) (λ ρ=>ak ρ 0) cF) (ao (aF cM (ao (λ ρ=>ak ρ 3) (λ Z=> .ok []))) (λ Z=> .ok []))))) bZ)) (λ Z=> .ok [])))))
noncomputable def vp:aq->So:=(bA (newL (λ Z=> .ok []) 3) (bA (bV (bin (jN (ao (jN (ao (λ Z=> .ok (.int 0)) (ao (λ Z=> .ok (.int 0)) (ao (λ Z=> .ok (.int 0)) (ao (λ Z=> .ok (.int 1)) (ao (λ Z=> .ok (.int 2)) (λ Z=> .ok []))))))) (ao (jN (ao (λ Z=> .ok (.int 0)) (ao (λ Z=> .ok (.int 0)) (ao (λ Z=> .ok (.int 0)) (ao (λ Z=> .ok (.int 0)) (ao (λ Z=> .ok (.int 1)) (λ Z=> .ok []))))))) (ao (jN (ao (λ Z=> .ok (.int 0)) (ao (λ Z=> .ok (.int 0)) (ao (λ Z=> .ok (.int 2)) (ao (λ Z=> .ok (.int 0)) (ao (λ Z=> .ok (.int 0)) (λ Z=> .ok []))))))) (ao (jN (ao (λ Z=> .ok (.int 0)) (λ Z=> .ok []))) (λ Z=> .ok [])))))) (aF (bh bU 3) (ao (λ ρ=>ak ρ 0) (ao (λ ρ=>ak ρ 1) (ao (λ Z=> .ok (.int 4)) (λ Z=> .ok []))))) bZ) (aV 4)) (bA (pN (λ ρ=>((ao (λ ρ=>ak ρ 2) (λ Z=> .ok [])) ρ).bind rY) (eV (eX 2 (bR (aV 5) (bR (aV 6) nilG)))) mkB) (retS (aF mJ (ao (λ ρ=>ak ρ 3) (λ Z=> .ok [])))))))
noncomputable def jY:List D->R D:=cT 5 vp
noncomputable def qL:aq->So:=(bA (T4 4 5 (bin (jN (ao (λ Z=> .ok (.int 2)) (ao (λ Z=> .ok (.int 5)) (ao (λ Z=> .ok (.int 100)) (ao (λ Z=> .ok (.int 10)) (λ Z=> .ok [])))))) (aF (bh bU 3) (ao (λ ρ=>ak ρ 0) (ao (λ ρ=>ak ρ 1) (ao (λ Z=> .ok (.int 4)) (λ Z=> .ok []))))) bZ) (λ Z=> .ok [])) (bA (pN (λ ρ=>((ao (λ ρ=>ak ρ 3) (λ Z=> .ok [])) ρ).bind mF) (aV 6) (qD 5 (aF mJ (ao (cj 1 [1,2,4,0,6] (λ ρ=>((ao (λ ρ=>ak ρ 2) (λ Z=> .ok [])) ρ).bind mF) (aV 0) (λ Z=> .ok true) (aF (bh bU 3) (ao (λ ρ=>ak ρ 4) (ao (bin (bin (bin (λ ρ=>ak ρ 1) (λ Z=> .ok (.int 1)) fY) (bin (λ ρ=>ak ρ 2) (λ ρ=>ak ρ 5) ji) fY) (λ ρ=>ak ρ 0) fY) (ao (λ ρ=>ak ρ 3) (λ Z=> .ok [])))))) (λ Z=> .ok []))))) (retS (aF mJ (ao (λ ρ=>ak ρ 5) (λ Z=> .ok []))))))
noncomputable def jg:List D->R D:=cT 3 qL
noncomputable def xP:aq->So:=(retS (aF (bh jg 4) (ao (λ ρ=>ak ρ 0) (ao (bin (λ ρ=>ak ρ 1) (λ Z=> .ok (.int 2)) fY) (ao (bin (λ Z=> .ok (.int 1)) (aF (bh bU 3) (ao (λ ρ=>ak ρ 0) (ao (λ ρ=>ak ρ 1) (ao (λ ρ=>ak ρ 2) (λ Z=> .ok []))))) fY) (ao (bin (λ Z=> .ok (.int 1)) (aF (bh bU 3) (ao (λ ρ=>ak ρ 0) (ao (bin (λ ρ=>ak ρ 1) (λ Z=> .ok (.int 1)) fY) (ao (λ ρ=>ak ρ 3) (λ Z=> .ok []))))) fY) (λ Z=> .ok [])))))))
noncomputable def lX:List D->R D:=cT 0 xP
noncomputable def Uy:aq->So:=(bA (bV (bin (aF cM (ao (λ ρ=>ak ρ 0) (λ Z=> .ok []))) (λ Z=> .ok (.int 1)) dX) (aV 1)) (retS (cj 1 [1,0] (λ ρ=>((ao (aF cM (ao (λ ρ=>ak ρ 0) (λ Z=> .ok []))) (λ Z=> .ok [])) ρ).bind mF) (aV 0) (λ Z=> .ok true) (aF u9 (ao (bin (bin (λ ρ=>ak ρ 2) (aF maxD (ao (bin (λ ρ=>ak ρ 0) (λ Z=> .ok (.int 1)) dX) (ao (λ Z=> .ok (.int 0)) (λ Z=> .ok [])))) bZ) (bin (λ ρ=>ak ρ 2) (aF minD (ao (bin (λ ρ=>ak ρ 0) (λ Z=> .ok (.int 1)) cF) (ao (λ ρ=>ak ρ 1) (λ Z=> .ok [])))) bZ) dX) (λ Z=> .ok []))))))
noncomputable def oE:List D->R D:=cT 1 Uy
noncomputable def vB:aq->So:=(bA (bV (bin (λ ρ=>ak ρ 0) (λ ρ=>ak ρ 1) bZ) (aV 2)) (bA (bV (bin (λ ρ=>ak ρ 0) (aF maxD (ao (bin (λ ρ=>ak ρ 1) (λ Z=> .ok (.int 1)) dX) (ao (λ Z=> .ok (.int 0)) (λ Z=> .ok [])))) bZ) (aV 3)) (bA (bV (bin (aF cM (ao (λ ρ=>ak ρ 2) (λ Z=> .ok []))) (λ Z=> .ok (.int 1)) dX) (aV 4)) (bA (newL (λ Z=> .ok []) 5) (bA (pN (λ ρ=>((ao (aF (bh oE 1) (ao (λ ρ=>ak ρ 2) (λ Z=> .ok []))) (λ Z=> .ok [])) ρ).bind rY) (eV (eX 2 (bR (aV 6) (bR (aV 7) nilG)))) (bA (bV (bin (λ ρ=>ak ρ 7) (aF u9 (ao (bin (bin (λ ρ=>ak ρ 3) (λ ρ=>ak ρ 6) bZ) (bin (λ ρ=>ak ρ 2) (aF maxD (ao (bin (λ ρ=>ak ρ 6) (λ Z=> .ok (.int 1)) dX) (ao (λ Z=> .ok (.int 0)) (λ Z=> .ok [])))) bZ) dX) (λ Z=> .ok []))) cF) (aV 8)) (bA (bV (bin (λ ρ=>ak ρ 7) (aF u9 (ao (bin (bin (λ ρ=>ak ρ 3) (λ ρ=>ak ρ 6) bZ) (bin (λ ρ=>ak ρ 2) (aF minD (ao (bin (λ ρ=>ak ρ 6) (λ Z=> .ok (.int 1)) cF) (ao (λ ρ=>ak ρ 4) (λ Z=> .ok [])))) bZ) dX) (λ Z=> .ok []))) cF) (aV 9)) (qD 5 (dh (ao (λ ρ=>ak ρ 8) (ao (λ ρ=>ak ρ 7) (ao (λ ρ=>ak ρ 9) (λ Z=> .ok []))))))))) (retS (λ ρ=>ak ρ 5)))))))
noncomputable def jZ:List D->R D:=cT 8 vB
noncomputable def DR:aq->So:=(retS (xu (Hh kO (λ ρ=>ak ρ 0)) (Tr (λ Z=> .ok (.int 1)) (aF cM (ao (λ ρ=>ak ρ 0) (λ Z=> .ok []))) (λ Z=> .ok (.int 20)) HJ HJ)))
noncomputable def iV:List D->R D:=cT 0 DR
noncomputable def Ax:aq->So:=(retS (xu (Hh Hj (λ ρ=>ak ρ 0)) (aiF (Hh Al (λ ρ=>ak ρ 0)))))
noncomputable def gw:List D->R D:=cT 0 Ax
noncomputable def DX:aq->So:=(retS (xu (aF (bh gw 1) (ao (λ ρ=>ak ρ 0) (λ Z=> .ok []))) (Tr (λ Z=> .ok (.int 0)) (λ ρ=>ak ρ 0) (λ Z=> .ok (.int 99)) HJ HJ)))
noncomputable def pG:List D->R D:=cT 0 DX
noncomputable def Jk:aq->So:=(retS (xu (aF (bh iV 1) (ao (λ ρ=>ak ρ 0) (λ Z=> .ok []))) (aF Aj (ao (cj 1 [] (fB (λ ρ=>ak ρ 0)) (aV 0) (λ Z=> .ok true) (aF (bh pG 1) (ao (λ ρ=>ak ρ 0) (λ Z=> .ok [])))) (λ Z=> .ok [])))))
noncomputable def qM:List D->R D:=cT 0 Jk
noncomputable def vC:aq->So:=(bA (gj (Cw (xG (cL (aF (bh iV 1) (ao (λ ρ=>ak ρ 0) (λ Z=> .ok []))))) (xG (cL (aF Aj (ao (cj 1 [] (fB (λ ρ=>ak ρ 0)) (aV 0) (λ Z=> .ok true) (aF (bh qM 1) (ao (λ ρ=>ak ρ 0) (λ Z=> .ok [])))) (λ Z=> .ok [])))))) (retS (λ Z=> .ok (.bl false))) So.nx) (retS (aF Aj (ao (cj 1 [0] (fB (λ ρ=>ak ρ 0)) (aV 0) (λ Z=> .ok true) (bin (aF cM (ao (λ ρ=>ak ρ 0) (λ Z=> .ok []))) (aF cM (ao (bin (λ ρ=>ak ρ 1) (λ Z=> .ok (.int 0)) bZ) (λ Z=> .ok []))) nW)) (λ Z=> .ok [])))))
noncomputable def j5:List D->R D:=cT 0 vC
noncomputable def qN:aq->So:=(gj (xG (cL (aF (bh j5 1) (ao (λ ρ=>ak ρ 0) (λ Z=> .ok []))))) (λ Z=> .bad) So.nx)
noncomputable def dN:List D->R D:=cT 0 qN
noncomputable def DY:aq->So:=(bA (Ai (aF (bh dN 1) (ao (λ ρ=>ak ρ 0) (λ Z=> .ok [])))) (retS (dh (ao (aF cM (ao (bin (λ ρ=>ak ρ 0) (λ Z=> .ok (.int 0)) bZ) (λ Z=> .ok []))) (ao (aF cM (ao (λ ρ=>ak ρ 0) (λ Z=> .ok []))) (λ Z=> .ok []))))))
noncomputable def jE:List D->R D:=cT 0 DY
noncomputable def Jl:aq->So:=(bA (bV (aF (bh jE 1) (ao (λ ρ=>ak ρ 0) (λ Z=> .ok []))) (eV (eX 2 (bR (aV 1) (bR (aV 2) nilG))))) (retS (aF mJ (ao (cj 1 [2,0] (λ ρ=>((ao (λ ρ=>ak ρ 1) (λ Z=> .ok [])) ρ).bind mF) (aV 0) (λ Z=> .ok true) (aF mJ (ao (cj 1 [2,0] (λ ρ=>((ao (λ ρ=>ak ρ 1) (λ Z=> .ok [])) ρ).bind mF) (aV 0) (λ Z=> .ok true) (bin (bin (λ ρ=>ak ρ 1) (λ ρ=>ak ρ 0) bZ) (λ ρ=>ak ρ 2) bZ)) (λ Z=> .ok [])))) (λ Z=> .ok [])))))
noncomputable def qO:List D->R D:=cT 2 Jl
noncomputable def Jm:aq->So:=(bA (bV (aF (bh jE 1) (ao (λ ρ=>ak ρ 0) (λ Z=> .ok []))) (eV (eX 2 (bR (aV 1) (bR (aV 2) nilG))))) (bA (bV (cj 1 [] (fB (λ ρ=>ak ρ 0)) (aV 0) (λ Z=> .ok true) (aF (bh oE 1) (ao (λ ρ=>ak ρ 0) (λ Z=> .ok [])))) (aV 3)) (bA (bV (cj 1 [] (fB (aF (bh qO 1) (ao (λ ρ=>ak ρ 0) (λ Z=> .ok [])))) (aV 0) (λ Z=> .ok true) (aF (bh oE 1) (ao (λ ρ=>ak ρ 0) (λ Z=> .ok [])))) (aV 4)) (retS (aF mJ (ao (cj 1 [3,4,1] (λ ρ=>((ao (λ ρ=>ak ρ 2) (λ Z=> .ok [])) ρ).bind mF) (aV 0) (λ Z=> .ok true) (aF mJ (ao (cj 1 [1,2,0] (λ ρ=>((ao (λ ρ=>ak ρ 3) (λ Z=> .ok [])) ρ).bind mF) (aV 0) (λ Z=> .ok true) (bin (bin (bin (λ ρ=>ak ρ 1) (λ ρ=>ak ρ 3) bZ) (λ ρ=>ak ρ 0) bZ) (bin (bin (λ ρ=>ak ρ 2) (λ ρ=>ak ρ 0) bZ) (λ ρ=>ak ρ 3) bZ) cF)) (λ Z=> .ok [])))) (λ Z=> .ok [])))))))
noncomputable def qP:List D->R D:=cT 4 Jm
noncomputable def Nh:aq->So:=(bA (gj (cL (bin (λ ρ=>ak ρ 1) (λ Z=> .ok (.str "worth")) nW)) (retS (cj 1 [] (fB (aF (bh qP 1) (ao (λ ρ=>ak ρ 0) (λ Z=> .ok [])))) (aV 0) (λ Z=> .ok true) (cj 1 [] (fB (λ ρ=>ak ρ 0)) (aV 0) (λ Z=> .ok true) (dh (ao (λ ρ=>ak ρ 0) (ao (λ ρ=>ak ρ 0) (ao (λ ρ=>ak ρ 0) (λ Z=> .ok [])))))))) So.nx) (retS (cj 1 [0] (λ ρ=>((ao (aF cM (ao (λ ρ=>ak ρ 0) (λ Z=> .ok []))) (λ Z=> .ok [])) ρ).bind mF) (aV 0) (λ Z=> .ok true) (aF (bh jZ 2) (ao (λ ρ=>ak ρ 1) (ao (λ ρ=>ak ρ 0) (λ Z=> .ok [])))))))
noncomputable def pH:List D->R D:=cT 0 Nh
noncomputable def Ay:aq->So:=(retS (bin (dh (ao (bin (dh (ao (λ Z=> .ok (.int 0)) (λ Z=> .ok []))) (aF cM (ao (bin (λ ρ=>ak ρ 0) (λ Z=> .ok (.int 0)) bZ) (λ Z=> .ok []))) vd) (λ Z=> .ok []))) (aF cM (ao (λ ρ=>ak ρ 0) (λ Z=> .ok []))) vd))
noncomputable def pY:List D->R D:=cT 0 Ay
noncomputable def Ea:aq->So:=(retS (xu (aF (bh gw 1) (ao (λ ρ=>ak ρ 0) (λ Z=> .ok []))) (Tr (λ Z=> .ok (.int 0)) (λ ρ=>ak ρ 0) (λ Z=> .ok (.int 2)) HJ HJ)))
noncomputable def pI:List D->R D:=cT 0 Ea
noncomputable def qQ:aq->So:=(retS (xu (Hh kO (λ ρ=>ak ρ 0)) (xu (bin (aF cM (ao (λ ρ=>ak ρ 0) (λ Z=> .ok []))) (λ ρ=>ak ρ 1) nW) (aF Aj (ao (cj 1 [] (fB (λ ρ=>ak ρ 0)) (aV 0) (λ Z=> .ok true) (aF (bh pI 1) (ao (λ ρ=>ak ρ 0) (λ Z=> .ok [])))) (λ Z=> .ok []))))))
noncomputable def jh:List D->R D:=cT 0 qQ
noncomputable def Az:aq->So:=(bA (gj (Cw (xG (cL (Hh kO (λ ρ=>ak ρ 0)))) (cL (bin (aF cM (ao (λ ρ=>ak ρ 0) (λ Z=> .ok []))) (aF cM (ao (λ ρ=>ak ρ 1) (λ Z=> .ok []))) jW))) (retS (λ Z=> .ok (.bl false))) So.nx) (retS (aF Aj (ao (cj 1 [1] (fB (λ ρ=>ak ρ 0)) (aV 0) (λ Z=> .ok true) (aF (bh jh 2) (ao (λ ρ=>ak ρ 0) (ao (aF cM (ao (bin (λ ρ=>ak ρ 1) (λ Z=> .ok (.int 0)) bZ) (λ Z=> .ok []))) (λ Z=> .ok []))))) (λ Z=> .ok [])))))
noncomputable def nu:List D->R D:=cT 0 Az
noncomputable def vG:aq->So:=(bA (gj (cL (bin (λ ρ=>ak ρ 0) (λ Z=> .ok .non) isD)) (retS (aF (bh pY 1) (ao (λ ρ=>ak ρ 1) (λ Z=> .ok [])))) So.nx) (bA (gj (xG (cL (aF (bh nu 2) (ao (λ ρ=>ak ρ 0) (ao (λ ρ=>ak ρ 1) (λ Z=> .ok [])))))) (λ Z=> .bad) So.nx) (retS (λ ρ=>ak ρ 0))))
noncomputable def j7:List D->R D:=cT 0 vG
noncomputable def Eb:aq->So:=(retS (bin (bin (λ ρ=>ak ρ 0) (λ ρ=>ak ρ 2) bZ) (bin (bin (λ ρ=>ak ρ 1) (λ ρ=>ak ρ 2) dX) (λ Z=> .ok (.int 1)) cF) bZ))
noncomputable def gU:List D->R D:=cT 0 Eb
noncomputable def Uz:aq->So:=(retS (aF aa6 (ao (aF maxD (ao (bin (λ ρ=>ak ρ 0) (λ Z=> .ok (.int 1)) dX) (ao (λ Z=> .ok (.int 0)) (λ Z=> .ok [])))) (ao (aF minD (ao (bin (λ ρ=>ak ρ 0) (λ Z=> .ok (.int 2)) cF) (ao (λ ρ=>ak ρ 1) (λ Z=> .ok [])))) (λ Z=> .ok [])))))
noncomputable def zL:List D->R D:=cT 0 Uz
noncomputable def onB:aq->So:=(bA (bV (aF (bh gU 3) (ao (λ ρ=>ak ρ 1) (ao (λ ρ=>ak ρ 2) (ao (λ ρ=>ak ρ 4) (λ Z=> .ok []))))) (aV 5)) (Ji 3 (cj 3 [5] (fB (bin (λ ρ=>ak ρ 0) (λ ρ=>ak ρ 4) bZ)) (eV (eX 3 (bR (aV 0) (bR (aV 1) (bR (aV 2) nilG))))) (λ Z=> .ok true) (dh (ao (λ ρ=>ak ρ 0) (ao (bin (λ ρ=>ak ρ 1) (λ ρ=>ak ρ 3) cF) (ao (λ ρ=>ak ρ 2) (λ Z=> .ok []))))))))
noncomputable def Jo:aq->So:=(bA (newL (λ Z=> .ok []) 3) (bA (pN (fB (aF (bh zL 2) (ao (λ ρ=>ak ρ 2) (ao (aF cM (ao (λ ρ=>ak ρ 0) (λ Z=> .ok []))) (λ Z=> .ok []))))) (aV 4) onB) (retS (λ ρ=>ak ρ 3))))
noncomputable def qR:List D->R D:=cT 3 Jo
noncomputable def agO (aG:Nat) (GG:List D->R D):aq->So:=(gj (cL (bin (λ ρ=>ak ρ 8) (λ Z=> .ok (.int 1)) nW)) (bV (jN (λ Z=> .ok [])) (aV 9)) (gj (xG (Uu (λ ρ=>ak ρ 4))) (bV (Ht 3 aG GG 2 (ao (λ ρ=>ak ρ 7) (ao (jN (ao (dh (ao (λ Z=> .ok (.int 0)) (ao (λ Z=> .ok (.int 0)) (ao (λ ρ=>ak ρ 2) (λ Z=> .ok []))))) (λ Z=> .ok []))) (λ Z=> .ok [])))) (aV 9)) (bV (Ht 3 aG GG 2 (ao (λ ρ=>ak ρ 7) (ao (aF (bh qR 3) (ao (ixO 4 (tu (λ Z=> .ok (.int 1)))) (ao (bin (λ ρ=>ak ρ 0) (bin (λ ρ=>ak ρ 5) (λ Z=> .ok (.int 1)) cF) bZ) (ao (λ ρ=>ak ρ 7) (λ Z=> .ok []))))) (λ Z=> .ok [])))) (aV 9))))
noncomputable def agP:aq->So:=(bA (bV (Dk (cL (bin (λ ρ=>ak ρ 8) (λ Z=> .ok (.int 2)) nW)) (λ Z=> .ok (.int 1)) (λ Z=> .ok (.int 0))) (aV 10)) (qD 6 (cj 3 [10] (fB (λ ρ=>ak ρ 9)) (eV (eX 3 (bR (aV 0) (bR (aV 1) (bR (aV 2) nilG))))) (λ Z=> .ok true) (dh (ao (bin (λ ρ=>ak ρ 0) (λ ρ=>ak ρ 3) dX) (ao (λ ρ=>ak ρ 1) (ao (λ ρ=>ak ρ 2) (λ Z=> .ok []))))))))
noncomputable def inW (aG:Nat) (GG:List D->R D):aq->So:=(bA (agO aG GG) agP)
noncomputable def afD (aG:Nat) (GG:List D->R D):aq->So:=(bA (newL (λ Z=> .ok []) 6) (bA (pN (λ ρ=>((ao (bin (λ ρ=>ak ρ 1) (λ ρ=>ak ρ 5) bZ) (λ Z=> .ok [])) ρ).bind rY) (eV (eX 2 (bR (aV 7) (bR (aV 8) nilG)))) (inW aG GG)) (M8 4 6)))
noncomputable def Ni (aG:Nat) (GG:List D->R D):aq->So:=(bA (newL (λ Z=> .ok []) 4) (bA (pN (λ ρ=>((ao (aF cM (ao (λ ρ=>ak ρ 1) (λ Z=> .ok []))) (λ Z=> .ok [])) ρ).bind Um) (aV 5) (afD aG GG)) (retS (Ti (λ ρ=>ak ρ 4)))))
noncomputable def uL (aG:Nat) (GG:List D->R D) (ds:List D):R D:=lq 7 (Ni aG GG) (ds.map .val++[.obj (.fn aG)])
noncomputable def Ec:aq->So:=(retS (cj 3 [0] (fB (qK (aF vg (ao (λ ρ=>ak ρ 1) (λ Z=> .ok []))) (λ Z=> .ok none) (λ ρ=>((λ ρ=>ak ρ 2) ρ).bind ou))) (eV (eX 3 (bR (aV 0) (bR (aV 1) (bR (aV 2) nilG))))) (λ Z=> .ok true) (dh (ao (λ ρ=>ak ρ 0) (ao (λ ρ=>ak ρ 1) (ao (bin (dh (ao (λ ρ=>ak ρ 3) (λ Z=> .ok []))) (λ ρ=>ak ρ 2) cF) (λ Z=> .ok [])))))))
noncomputable def d8 (my:Int) (ds:List D):R D:=lq 0 Ec (ds.map .val++[.val (.int my)])
noncomputable def xQ:aq->So:=(Tg 3 2 ((λ ρ=>ak ρ 0):aq->R D) ((λ ρ=>ak ρ 1):aq->R D) ((dh (λ Z=> .ok [])):aq->R D) uL d8)
noncomputable def oF (ds:List D):R D:=lq 1 xQ (ds.map .val)
noncomputable def Ba:aq->So:=(bA (newL (λ Z=> .ok []) 2) (bA (pN (λ ρ=>((ao (bin (λ ρ=>ak ρ 1) (λ Z=> .ok (.int 0)) bZ) (λ Z=> .ok [])) ρ).bind rY) (eV (eX 2 (bR (aV 3) (bR (aV 4) nilG)))) (bA (bV (aF (bh gU 3) (ao (bin (λ ρ=>ak ρ 0) (λ Z=> .ok (.int 0)) bZ) (ao (λ ρ=>ak ρ 3) (ao (λ ρ=>ak ρ 3) (λ Z=> .ok []))))) (aV 5)) (Ji 2 (cj 3 [5] (fB (λ ρ=>ak ρ 4)) (eV (eX 3 (bR (aV 0) (bR (aV 1) (bR (aV 2) nilG))))) (λ Z=> .ok true) (dh (ao (λ ρ=>ak ρ 0) (ao (bin (λ ρ=>ak ρ 1) (λ ρ=>ak ρ 3) cF) (ao (λ ρ=>ak ρ 2) (λ Z=> .ok []))))))))) (retS (λ ρ=>ak ρ 2))))
noncomputable def nA:List D->R D:=cT 4 Ba
noncomputable def tE:aq->So:=(retS (qK (aF vg (ao (aF (bh nA 2) (ao (λ ρ=>ak ρ 0) (ao (aF (bh oF 3) (ao (λ ρ=>ak ρ 0) (ao (λ ρ=>ak ρ 1) (ao (λ ρ=>ak ρ 2) (λ Z=> .ok []))))) (λ Z=> .ok [])))) (λ Z=> .ok []))) (λ Z=> .ok none) (λ ρ=>((λ ρ=>ak ρ 2) ρ).bind ou)))
noncomputable def lK (ds:List D):R D:=lq 0 tE (ds.map .val)
noncomputable def xR:aq->So:=(bA (bV (aF (bh lK 3) (ao (λ ρ=>ak ρ 0) (ao (λ ρ=>ak ρ 1) (ao (λ Z=> .ok (.int 1)) (λ Z=> .ok []))))) (aV 2)) (bA (gj (xG (Uu (λ ρ=>ak ρ 2))) (retS (λ Z=> .ok .non)) So.nx) (bA (bV (bin (λ ρ=>ak ρ 2) (λ Z=> .ok (.int 0)) bZ) (eV (eX 3 (bR (aV 3) (bR (aV 4) (bR (aV 5) nilG)))))) (retS (dh (ao (λ ρ=>ak ρ 4) (ao (λ ρ=>ak ρ 5) (λ Z=> .ok []))))))))
noncomputable def lY (ds:List D):R D:=lq 4 xR (ds.map .val)
noncomputable def tH:aq->So:=(gj (cL (bin (λ ρ=>ak ρ 0) (λ Z=> .ok (.tup [.str "worth",.str "joins"])) (zH true))) (λ Z=> .bad) So.nx)
noncomputable def jB:List D->R D:=cT 0 tH
noncomputable def Ed:aq->So:=(retS (aF mJ (ao (cj 2 [] (λ ρ=>((ao (λ ρ=>ak ρ 0) (ao (λ ρ=>ak ρ 1) (λ Z=> .ok []))) ρ).bind zip2) (eV (eX 2 (bR (aV 0) (bR (aV 1) nilG)))) (λ Z=> .ok true) (bin (dG (λ ρ=>ak ρ 0) (λ Z=> .ok none) (λ ρ=>((λ ρ=>ak ρ 1) ρ).bind ou)) (dG (λ ρ=>ak ρ 0) (λ ρ=>((bin (λ ρ=>ak ρ 1) (λ Z=> .ok (.int 1)) cF) ρ).bind ou) (λ Z=> .ok none)) cF)) (λ Z=> .ok []))))
noncomputable def mU:List D->R D:=cT 0 Ed
noncomputable def clT:aq->R Bool:=(cL (aF aa7 (ao (cj 1 [] (fB (λ ρ=>ak ρ 4)) (aV 0) (λ Z=> .ok true) (bin (λ Z=> .ok (.int 2)) (λ ρ=>ak ρ 0) (zH false))) (λ Z=> .ok []))))
noncomputable def clB:aq->So:=(bA (bV (aF (bh lY 2) (ao (aF (bh pH 2) (ao (λ ρ=>ak ρ 3) (ao (λ ρ=>ak ρ 2) (λ Z=> .ok [])))) (ao (λ ρ=>ak ρ 4) (λ Z=> .ok [])))) (aV 6)) (bA (gj (Cw (cL (bin (λ ρ=>ak ρ 6) (λ Z=> .ok .non) isD)) (cL (bin (aF cM (ao (bin (λ ρ=>ak ρ 3) (λ Z=> .ok (.int 0)) bZ) (λ Z=> .ok []))) (λ Z=> .ok (.int 1)) nW))) (retS (λ Z=> .ok .non)) So.nx) (bA (bV (λ ρ=>ak ρ 6) (eV (eX 2 (bR (aV 7) (bR (aV 8) nilG))))) (bA (qD 5 (λ ρ=>ak ρ 8)) (Ak 3 4 (aF (bh mU 2) (ao (λ ρ=>ak ρ 3) (ao (λ ρ=>ak ρ 8) (λ Z=> .ok [])))) (aF (bh mU 2) (ao (λ ρ=>ak ρ 4) (ao (λ ρ=>ak ρ 8) (λ Z=> .ok [])))))))))
noncomputable def Ef:aq->So:=(bA (Ai (aF (bh dN 1) (ao (λ ρ=>ak ρ 0) (λ Z=> .ok [])))) (bA (Ai (aF (bh jB 1) (ao (λ ρ=>ak ρ 2) (λ Z=> .ok [])))) (bA (Ak 3 4 (λ ρ=>ak ρ 0) (aF (bh j7 2) (ao (λ ρ=>ak ρ 1) (ao (λ ρ=>ak ρ 0) (λ Z=> .ok []))))) (bA (newL (λ Z=> .ok []) 5) (bA (jk clT clB 64) (retS (λ ρ=>ak ρ 5)))))))
noncomputable def fW (ds:List D):R D:=lq 6 Ef (ds.map .val)
noncomputable def aa8:aq->So:=(bA (bV (aF (bh lX 4) (ao (λ ρ=>ak ρ 0) (ao (λ Z=> .ok (.int 0)) (ao (λ Z=> .ok (.int 4)) (ao (λ Z=> .ok (.int 3)) (λ Z=> .ok [])))))) (aV 1)) (bA (Ak 2 3 (aF (bh jY 3) (ao (λ ρ=>ak ρ 0) (ao (λ Z=> .ok (.int 30)) (ao (λ ρ=>ak ρ 1) (λ Z=> .ok []))))) (aF (bh jA 2) (ao (λ ρ=>ak ρ 0) (ao (λ Z=> .ok (.int 60)) (λ Z=> .ok []))))) (bA (gj (cL (bin (aF (bh bU 3) (ao (λ ρ=>ak ρ 0) (ao (λ Z=> .ok (.int 61)) (ao (λ Z=> .ok (.int 3)) (λ Z=> .ok []))))) (λ Z=> .ok (.int 0)) nW)) (bA (Ak 4 5 (aF (bh bU 3) (ao (λ ρ=>ak ρ 0) (ao (λ Z=> .ok (.int 62)) (ao (aF cM (ao (λ ρ=>ak ρ 1) (λ Z=> .ok []))) (λ Z=> .ok []))))) (aF (bh bU 3) (ao (λ ρ=>ak ρ 0) (ao (λ Z=> .ok (.int 63)) (ao (aF cM (ao (bin (λ ρ=>ak ρ 1) (λ Z=> .ok (.int 0)) bZ) (λ Z=> .ok []))) (λ Z=> .ok [])))))) (bV (bin (bin (dG (λ ρ=>ak ρ 2) (λ Z=> .ok none) (λ ρ=>((λ ρ=>ak ρ 4) ρ).bind ou)) (dh (ao (bin (bin (dG (bin (λ ρ=>ak ρ 2) (λ ρ=>ak ρ 4) bZ) (λ Z=> .ok none) (λ ρ=>((λ ρ=>ak ρ 5) ρ).bind ou)) (dh (ao (λ Z=> .ok (.int 2)) (λ Z=> .ok []))) cF) (dG (bin (λ ρ=>ak ρ 2) (λ ρ=>ak ρ 4) bZ) (λ ρ=>((bin (λ ρ=>ak ρ 5) (λ Z=> .ok (.int 1)) cF) ρ).bind ou) (λ Z=> .ok none)) cF) (λ Z=> .ok []))) cF) (dG (λ ρ=>ak ρ 2) (λ ρ=>((bin (λ ρ=>ak ρ 4) (λ Z=> .ok (.int 1)) cF) ρ).bind ou) (λ Z=> .ok none)) cF) (aV 2))) So.nx) (bA (gj (cL (bin (oY fW 3 1 [.inl 0] (ao (λ ρ=>ak ρ 1) (ao (λ ρ=>ak ρ 2) (λ Z=> .ok []))) (ao (λ ρ=>ak ρ 3) (λ Z=> .ok []))) (aF (bh iH 3) (ao (λ ρ=>ak ρ 1) (ao (λ ρ=>ak ρ 2) (ao (λ ρ=>ak ρ 3) (λ Z=> .ok []))))) jW)) (retS (λ Z=> .ok (.bl false))) So.nx) (bA (gj (cL (bin (oY fW 3 0 [.inr (.str "worth")] (ao (λ ρ=>ak ρ 1) (ao (λ ρ=>ak ρ 2) (λ Z=> .ok []))) (λ Z=> .ok [])) (aF (bh iH 3) (ao (λ ρ=>ak ρ 1) (ao (λ ρ=>ak ρ 2) (ao (λ Z=> .ok (.str "worth")) (λ Z=> .ok []))))) jW)) (retS (λ Z=> .ok (.bl false))) So.nx) (bA (gj (cL (bin (oY fW 3 0 [.inr (.str "worth")] (ao (λ ρ=>ak ρ 1) (ao (aF (bh eY 1) (ao (λ ρ=>ak ρ 1) (λ Z=> .ok []))) (λ Z=> .ok []))) (λ Z=> .ok [])) (jN (λ Z=> .ok [])) jW)) (retS (λ Z=> .ok (.bl false))) So.nx) (retS (bin (oY fW 3 0 [.inr (.str "worth")] (ao (λ ρ=>ak ρ 1) (ao (bin (dh (ao (bin (dh (ao (λ Z=> .ok (.int 2)) (λ Z=> .ok []))) (aF cM (ao (bin (λ ρ=>ak ρ 1) (λ Z=> .ok (.int 0)) bZ) (λ Z=> .ok []))) vd) (λ Z=> .ok []))) (dG (aF (bh eY 1) (ao (λ ρ=>ak ρ 1) (λ Z=> .ok []))) (λ ρ=>(((λ Z=> .ok (.int 1)):aq->R D) ρ).bind ou) (λ Z=> .ok none)) cF) (λ Z=> .ok []))) (λ Z=> .ok [])) (λ Z=> .ok .non) isD))))))))
noncomputable def Kh (ds:List D):R D:=lq 5 aa8 (ds.map .val)
end gZ
namespace gZ
open PySem PySem.Spec L2 Pu
noncomputable def row (w:Nat) (f:Nat->Int):D:= .tup ((List.range w).map λ x=> .int (f x))
noncomputable def bJ (w h:Nat) (f:Nat->Nat->Int):D:= .tup ((List.range h).map λ y=>row w (f y))
structure Ok (w h:Nat) (f:Nat->Nat->Int):Prop where
 w1:1<=w
 w2:w<=20
 h1:1<=h
 h2:h<=20
 c:∀y < h,∀x < w,0<=f y x/\f y x<=99
theorem Kl {i j:Int} (h:i<=j):HJ (.int i) (.int j)= .ok (.bl true):=by
 show R.ok (D.bl (decide (i<=j)))=_
 rw[decide_eq_true h]
theorem Km {ds:List D} (h1:1<=ds.length) (h2:ds.length<=20):iV [.tup ds]= .ok (.bl true):=
 cH (bN (zx rfl (T6 rfl (bx (aB rfl) rfl) (Kl (by exact Int.ofNat_lt.mpr h1)) rfl (Kl (by exact Int.ofNat_le.mpr h2)))))
theorem Yb {i:Int}:gw [.int i]= .ok (.bl true):=rfl
theorem aa9 {i:Int} (h0:0<=i) (h1:i<=99):pG [.int i]= .ok (.bl true):=by
 exact cH (bN (zx (bF (aB rfl) Yb) (T6 rfl rfl (Kl h0) rfl (Kl h1))))
theorem adG {w:Nat} {f:Nat->Int} (h1:1<=w) (h2:w<=20) (hc:∀x < w,0<=f x/\f x<=99):qM [row w f]= .ok (.bl true):=by
 refine cH (bN (zx (bF (aB rfl) (Km (by simpa using h1) (by simpa using h2))) (bx (aB (cQ (c:=λ x=> .int (f x)) (h:=λ Z=> .bl true) (l:=List.range w) (jf rfl) (by rw[List.length_range];exact dY h2) λ x hx=>?_)) Hq)))
 obtain⟨a,b⟩:=hc x (List.mem_range.mp hx)
 exact c7 rfl (bF (aB rfl) (aa9 a b))
section
variable {w h:Nat} {f:Nat->Nat->Int}
theorem QJ (o:Ok w h f):j5 [bJ w h f]= .ok (.bl true):=by
 have e1:iV [bJ w h f]= .ok (.bl true):=Km (by simpa using o.h1) (by simpa using o.h2)
 refine cH (aM (cZ (sO (pP (bw (bF (aB rfl) e1))) (pP (bw (bx (aB (cQ (c:=λ y=>row w (f y)) (h:=λ Z=> .bl true) (l:=List.range h) (jf rfl) (by rw[List.length_range];have:=o.h2;exact dY this) λ y hy=>?_)) Hq)))) rfl) (bN (bx (aB (cQ (c:=λ y=>row w (f y)) (h:=λ Z=> .bl true) (l:=List.range h) (jf rfl) (by rw[List.length_range];have:=o.h2;exact dY this) λ y hy=>?_)) Hq)))
 ·exact c7 rfl (bF (aB rfl) (adG o.w1 o.w2 (o.c y (List.mem_range.mp hy))))
 ·refine c7 rfl (au (bx (aB rfl) rfl) (bx (aB (au rfl rfl (pQ (i:=0) (d:=row w (f 0)) ?_))) rfl) (afk ?_ ?_))
  ·rw[List.getElem?_map,List.getElem?_range o.h1];rfl
  ·simp
  ·simp[jr,jt,uo,uq,ur,uw]
theorem Nj (o:Ok w h f):dN [bJ w h f]= .ok .non:=aaT (cZ (pP (bw (bF (aB rfl) (QJ o)))) rfl)
theorem size_eq (o:Ok w h f):jE [bJ w h f]= .ok (.tup [.int w,.int h]):=by
 refine cH (aM (zy (bF (aB rfl) (Nj o))) (bN (eN (aD (bx (aB (au rfl rfl (pQ (i:=0) (d:=row w (f 0)) ?_))) ?_) (aB (bx (aB rfl) ?_))))))
 ·rw[List.getElem?_map,List.getElem?_range o.h1];rfl
 ·simp[row,uX,qF]
 ·simp[bJ,uX,qF]
theorem adH (o:Ok w h f):qO [bJ w h f]= .ok (bJ h w λ y x=>f x y):=by
 refine cH (aM (bH (bF (aB rfl) (size_eq o)) rfl) (bN (bx (aB (cQ (c:=λ (x:Nat)=> .int (x:Int)) (h:=λ x=>row h λ y=>f y x) (l:=List.range w) (mL (aB rfl) (by have:=o.w2;exact G3 this)) (by rw[List.length_range];have:=o.w2;exact dY this) λ x hx=>?_)) rfl)))
 refine c7 rfl (bx (aB (cQ (c:=λ (y:Nat)=> .int (y:Int)) (h:=λ y=> .int (f y x)) (l:=List.range h) (mL (aB rfl) (by have:=o.h2;exact G3 this)) (by rw[List.length_range];have:=o.h2;exact dY this) λ y hy=>?_)) rfl)
 refine c7 rfl (au (au rfl rfl (pQ (i:=y) (d:=row w (f y)) ?_)) rfl (pQ (i:=x) ?_))
 ·rw[List.getElem?_map,List.getElem?_range (List.mem_range.mp hy)];rfl
 ·rw[List.getElem?_map,List.getElem?_range (List.mem_range.mp hx)];rfl
end
noncomputable def afE:aq->So:=(qD 5 (aF mJ (ao (cj 1 [1,2,4,0,6] (λ ρ=>((ao (λ ρ=>ak ρ 2) (λ Z=> .ok [])) ρ).bind mF) (aV 0) (λ Z=> .ok true) (aF (bh bU 3) (ao (λ ρ=>ak ρ 4) (ao (bin (bin (bin (λ ρ=>ak ρ 1) (λ Z=> .ok (.int 1)) fY) (bin (λ ρ=>ak ρ 2) (λ ρ=>ak ρ 5) ji) fY) (λ ρ=>ak ρ 0) fY) (ao (λ ρ=>ak ρ 3) (λ Z=> .ok [])))))) (λ Z=> .ok []))))
section
variable {ns:List Int} {a m:Int} {w h:Nat}
noncomputable def vA (d:D):Option Ent:=some (.val d)
theorem ajf (hns:ns.length<=1000000) (ha:0<=a) (hm:0 < m) (hw:w<=20) {acc:List D} {y:Nat} {tl:Option Ent} (hl:acc.length < 1000000):
  afE [vA (.lst (ns.map .int)),vA (.int a),vA (.int (w:Int)),tl,vA (.int m),some (.lst acc),vA (.int (y:Int))] =
   .nx [vA (.lst (ns.map .int)),vA (.int a),vA (.int (w:Int)),tl,vA (.int m),some (.lst (acc++[row w λ x=>dr ns (a+1+(w:Int)*(y:Int)+(x:Int)) m])),vA (.int (y:Int))]:=by
 have e:aF mJ (ao (cj 1 [1,2,4,0,6] (λ ρ=>((ao (λ ρ=>ak ρ 2) (λ Z=> .ok [])) ρ).bind mF) (aV 0) (λ Z=> .ok true) (aF (bh bU 3) (ao (λ ρ=>ak ρ 4) (ao (bin (bin (bin (λ ρ=>ak ρ 1) (λ Z=> .ok (.int 1)) fY) (bin (λ ρ=>ak ρ 2) (λ ρ=>ak ρ 5) ji) fY) (λ ρ=>ak ρ 0) fY) (ao (λ ρ=>ak ρ 3) (λ Z=> .ok [])))))) (λ Z=> .ok []))
   [vA (.lst (ns.map .int)),vA (.int a),vA (.int (w:Int)),tl,vA (.int m),some (.lst acc),vA (.int (y:Int))]= .ok (row w λ x=>dr ns (a+1+(w:Int)*(y:Int)+(x:Int)) m):=by
  refine bx (aB (cQ (c:=λ (x:Nat)=>D.int (x:Int)) (h:=λ (x:Nat)=>D.int (dr ns (a+1+(w:Int)*(y:Int)+(x:Int)) m)) (l:=List.range w) (mL (aB rfl) (by omega)) (by rw[List.length_range];exact dY hw) λ x hx=>?_)) rfl
  refine c7 rfl (bF (aD rfl (aD (au (au (au rfl rfl rfl) (au rfl rfl (nY (.inl ⟨by exact z0a _,by omega⟩))) rfl) rfl rfl) (aB rfl))) ?_)
  have hp:(0:Int)<=(w:Int)*(y:Int):=Int.mul_nonneg (by exact z0a _) (by exact z0a _)
  exact (pW hns (by omega) hm).1
 unfold afE qD
 rw[e]
 show (if acc.length < 1000000 then So.nx _ else .bad)=_
 rw[if_pos hl];rfl
theorem UG (hns:ns.length<=1000000) (ha:0<=a) (hm:0 < m) (hw:w<=20) {tl:Option Ent}:∀{ys:List Nat} {acc:List D} {x:Option Ent},acc.length+ys.length<=1000000->
  ∃ x',forL (aV 6) afE (ys.map λ (y:Nat)=>D.int (y:Int)) [vA (.lst (ns.map .int)),vA (.int a),vA (.int (w:Int)),tl,vA (.int m),some (.lst acc),x] =
   .nx [vA (.lst (ns.map .int)),vA (.int a),vA (.int (w:Int)),tl,vA (.int m),some (.lst (acc++ys.map λ (y:Nat)=>row w λ x=>dr ns (a+1+(w:Int)*(y:Int)+(x:Int)) m)),x']
 |[],acc,x,_=>⟨x,by rw[List.map_nil,List.map_nil,List.append_nil];rfl⟩
 | y::ys,acc,x,hl=>by
  rw[List.length_cons] at hl
  obtain⟨x',e⟩:=UG hns ha hm hw (tl:=tl) (ys:=ys) (acc:=acc++[row w λ x=>dr ns (a+1+(w:Int)*(y:Int)+(x:Int)) m]) (x:=vA (.int (y:Int))) (by rw[List.length_append];simp only[List.length_cons,List.length_nil];exact akE hl)
  refine⟨x',?_⟩
  rw[List.append_assoc] at e
  rw[List.map_cons,List.map_cons]
  exact iU rfl (ajf hns ha hm hw (by omega)) e
theorem abb (hns:ns.length<=1000000) (ha:0<=a) (hw:w<=20) (hw1:1<=w) (hh:h<=20) (hh1:1<=h):∃f,jg [.lst (ns.map .int),.int a,.int (w:Int),.int (h:Int)]= .ok (bJ w h f)/\Ok w h f:=by
 refine bc λ zQ=>?_
 obtain⟨e1,h0,h4⟩:=pW (k:=a) (m:=4) hns ha (by exact z0a _)
 obtain⟨d,hd,ed⟩:=Hl (xs:=[D.int 2,.int 5,.int 100,.int 10]) h0 h4
 have hm:∃m,d= .int m/\0 < m/\m<=100:=by
  simp only[List.mem_cons,List.not_mem_nil,or_false] at hd
  refine bc λ zQ=>?_
  rcases hd with rfl |rfl |rfl |rfl
  ·apply zQ;clear zQ
   exact⟨_,rfl,by exact z0a _,by exact z0a _⟩
  ·apply zQ;clear zQ
   exact⟨_,rfl,by exact z0a _,by exact z0a _⟩
  ·apply zQ;clear zQ
   exact⟨_,rfl,by exact z0a _,by exact z0a _⟩
  ·apply zQ;clear zQ
   exact⟨_,rfl,by exact z0a _,by exact z0a _⟩
 obtain⟨m,rfl,hm0,hm1⟩:=hm
 obtain⟨x',er⟩:=UG hns ha hm0 hw (tl:=vA (.int (h:Int))) (ys:=List.range h) (acc:=[]) (x:=none) (by rw[List.length_range,List.length_nil];exact akF hh)
 apply zQ;clear zQ
 refine⟨λ y x=>dr ns (a+1+(w:Int)*(y:Int)+(x:Int)) m,cH (aM (ρ':=[vA (.lst (ns.map .int)),vA (.int a),vA (.int (w:Int)),vA (.int (h:Int)),vA (.int m),some (.lst []),none]) ?_ (aM (nZ (mL (m:=h) (aB rfl) (by omega)) er) (bN (bx (aB (x:= .lst ((List.range h).map λ (y:Nat)=>row w λ x=>dr ns (a+1+(w:Int)*(y:Int)+(x:Int)) m)) rfl) rfl)))),hw1,hw,hh1,hh,λ y hy x hx=>?_⟩
 ·exact ag3 (au (x:= .lst [D.int 2,.int 5,.int 100,.int 10]) (y:= .int (dr ns a 4)) (iB rfl) (bF (aD rfl (aD rfl (aB rfl))) e1) (zA ed)) rfl
 ·have hp:(0:Int)<=(w:Int)*(y:Int):=Int.mul_nonneg (by exact agm) (by exact agm)
  have:=(pW (k:=a+1+(w:Int)*(y:Int)+(x:Int)) (m:=m) hns (by exact akG ha hp) hm0).2
  show 0<=dr _ _ _/\dr _ _ _<=99
  exact akH this hm1
end
section
variable {w h:Nat} {f g:Nat->Nat->Int}
end
structure vH (w h:Nat) (s:Nat->Nat):Prop where
 lt:∀y < h,s y < w
 st:∀y,y+1 < h->s (y+1)<=s y+1/\s y<=s (y+1)+1
noncomputable abbrev sm (h:Nat) (s:Nat->Nat):D:=row h λ y=>((s y:Nat):Int)
section
variable {ρ:aq} {fa:aq->R (List D)} {α:Type} {l:List α} {p q r:α->D} {x y z:D}
theorem Nk (e:fa ρ= .ok [x,y]) (h1:jj x= .ok (l.map p)) (h2:jj y= .ok (l.map q)):(λ ρ=>(fa ρ).bind zip2) ρ= .ok (l.map λ a=> .tup [p a,q a]):=by
 show (fa ρ).bind zip2=_
 rw[e,R.bL,ai1,h1,R.bL,h2,R.bL,Jf,List.zip_map',List.map_map];rfl
theorem am7 {i j:Int} (h:i < j):ltI (.int i) (.int j)= .ok (.bl true):=by
 show R.ok (D.bl (decide (i < j)))=_
 rw[decide_eq_true h]
theorem aht {i j:Int} (h:i=j):jW (.int i) (.int j)= .ok (.bl false):=qI (by rw[h]) (by simp[jr,jt,uo,uq,ur,uw])
theorem adI {n d k:Nat}:HT.sIx n d (some (k:Int))=min k n:=by
 show (if (k:Int) < 0 then ((k:Int)+(n:Int)).toNat else min (k:Int).toNat n)=min k n
 rw[if_neg (by exact akI),Int.toNat_natCast]
theorem Eh {n d:Nat}:HT.sIx n d none=d:=rfl
theorem ahu {ds:List D} {n:Nat} (h:n<=ds.length):lg ds none (some (n:Int))=ds.take n:=by
 rw[lg,adI,Eh,Nat.min_eq_left h,Nat.sub_zero];rfl
theorem adJ {ds:List D} {n:Nat} (h:n<=ds.length):lg ds (some (n:Int)) none=ds.drop n:=by
 rw[lg,adI,Eh,Nat.min_eq_left h,List.take_of_length_le (by rw[List.length_drop];exact z0g _)]
theorem Nm {f:aq->R D} {fu:aq->R (Option Int)} {ds:List D} {n:Nat} (e1:f ρ= .ok (.tup ds)) (e2:fu ρ= .ok (some (n:Int))) (h:n<=ds.length):dG f (λ Z=> .ok none) fu ρ= .ok (.tup (ds.take n)):=by
 rw[dG,e1,R.bL,R.bL,e2,R.bL,T9,ahu h]
theorem wZ {f:aq->R D} {fl:aq->R (Option Int)} {ds:List D} {n:Nat} (e1:f ρ= .ok (.tup ds)) (e2:fl ρ= .ok (some (n:Int))) (h:n<=ds.length):dG f fl (λ Z=> .ok none) ρ= .ok (.tup (ds.drop n)):=by
 rw[dG,e1,R.bL,e2,R.bL,R.bL,T9,adJ h]
theorem nD {xs ys:List D} (h:xs.length+ys.length<=1000000):cF (.tup xs) (.tup ys)= .ok (.tup (xs++ys)):=by
 exact if_pos h
theorem ahv {xs ys:List D} (h:xs.length+ys.length<=1000000):cF (.lst xs) (.lst ys)= .ok (.lst (xs++ys)):=by
 rw[cF,if_pos h]
end
section
variable {w h:Nat} {g:Nat->Int} {n:Nat} {c:Int}
theorem UJ (hn:n < w):((List.range w).map λ x=>D.int (g x)).take n++((List.range w).map λ x=>D.int (g x)).drop (n+1)=(List.range (w - 1)).map λ x=>D.int (if x < n then g x else g (x+1)):=by
 refine List.ext_getElem (by simp;exact akJ hn) λ i h1 h2=>?_
 rw[List.getElem_append]
 by_cases hi:i < n
 ·rw[dif_pos (by simp;exact akK hi hn)]
  simp[hi]
 ·rw[dif_neg (by simp;exact akL hi)]
  have e:n+1+(i - min n w)=i+1:=by exact akM hn hi
  simp[hi,e]
end
section
variable {w h:Nat} {f:Nat->Nat->Int} {s:Nat->Nat}
theorem len0 (o:Ok w h f) {ρ:aq} {u:aq->R D} (e:u ρ= .ok (bJ w h f)):aF cM (ao (bin u (λ Z=> .ok (.int 0)) bZ) (λ Z=> .ok [])) ρ= .ok (.int (w:Int)):=by
 refine bx (aB (au e rfl (pQ (i:=0) (d:=row w (f 0)) ?_))) ?_
 ·rw[List.getElem?_map,List.getElem?_range o.h1];rfl
 ·simp[row,uX,qF]
noncomputable def less (s:Nat->Nat) (f:Nat->Nat->Int):Nat->Nat->Int:=λ y x=>if x < s y then f y x else f y (x+1)
noncomputable def more (s:Nat->Nat) (c:Nat->Int) (f:Nat->Nat->Int):Nat->Nat->Int:=λ y x=>if x < s y then f y x else if x=s y then c y else f y (x - 1)
theorem Ko (q:vH w h s) (ju:h<=20) (w20:w<=20):mU [bJ w h f,sm h s]= .ok (bJ (w - 1) h (less s f)):=by
 refine cH (bN (bx (aB (cQ (c:=λ y=> .tup [row w (f y),.int ((s y:Nat):Int)]) (h:=λ y=>row (w - 1) (less s f y)) (l:=List.range h) (Nk (aD rfl (aB rfl)) rfl rfl) (by rw[List.length_range];exact dY ju) λ y hy=>?_)) rfl))
 have hs:=q.lt y (List.mem_range.mp hy)
 refine c7 rfl (au (Nm (n:=s y) rfl rfl (by simp;exact z0e hs)) (wZ (n:=s y+1) rfl rfl (by simp;assumption)) ((nD (by simp;exact akO w20)).trans ?_))
 rw[UJ hs];rfl
end
theorem lZ {ρ:aq} {fa:aq->R (List D)} {ds:List D} {i:Nat} (e:fa ρ= .ok ds) (h:autoParam (ds.length<=1000000) ap7._auto_1):newL fa i ρ= .nx (ρ.set i (some (.lst ds))):=by
 unfold newL
 rw[e]
 show (if _ then _ else _)=_
 rw[if_pos h]
noncomputable def pl (ps:List Nat):List D:=ps.map λ p=> .int ((p:Nat):Int)
section
variable {ns:List Int} {a:Int} {w h:Nat} {t:Option Ent}
end
section
variable {w h:Nat} {f:Nat->Nat->Int}
end
section
variable {w h:Nat} {f:Nat->Nat->Int} {s:Nat->Nat} {c:Nat->Int}
theorem Ok.less (o:Ok w h f) (h1:1 < w):Ok (w - 1) h (less s f):=by
 refine⟨by exact akQ h1,by have:=o.w2;exact akP this,o.h1,o.h2,λ y hy x hx=>?_⟩
 unfold gZ.less
 split
 ·exact o.c y hy x (by exact akN hx)
 ·exact o.c y hy (x+1) (by exact agn hx)
end
end gZ
namespace gZ
open PySem PySem.Spec L2 Pu
noncomputable def ab (i:Int):Int:=if i < 0 then -i else i
noncomputable def gap (n:Nat) (g:Nat->Int) (x:Nat):Int:=ab (g (x - 1) - g (min (x+1) (n - 1)))
noncomputable def UL (w h:Nat) (f:Nat->Nat->Int) (y x:Nat):Int:=gap w (f y) x+gap h (λ y=>f y x) y
section
variable {n w h:Nat} {g:Nat->Int} {f:Nat->Nat->Int} {s:Nat->Nat} {ρ:aq}
theorem qT:cM [row n g]= .ok (.int (n:Int)):=by simp[row,uX,qF]
theorem qU:cM [bJ w h f]= .ok (.int (h:Int)):=by simp[bJ,uX,qF]
theorem Ei {n:Nat} (h1:1<=n):dX (.int (n:Int)) (.int 1)= .ok (.int ((n - 1:Nat):Int)):=by
 show R.ok (D.int ((n:Int) - 1))=_
 rw[show (n:Int) - 1=((n - 1:Nat):Int) by exact akR h1]
theorem abd {x:Nat}:maxD [.int ((x:Int) - 1),.int 0]= .ok (.int ((x - 1:Nat):Int)):=by
 show R.ok (D.int (if (0:Int) > (x:Int) - 1 then 0 else (x:Int) - 1))=_
 congr 2
 split <;> (first |exact akS (by assumption) |exact akT (by assumption))
theorem min1 {x n:Nat}:minD [.int ((x+1:Nat):Int),.int (n:Int)]= .ok (.int ((min (x+1) n:Nat):Int)):=by
 show R.ok (D.int (if (n:Int) < ((x+1:Nat):Int) then (n:Int) else ((x+1:Nat):Int)))=_
 congr 2
 split <;> (first |exact akU (by assumption) |exact akV (by assumption))
theorem lM {x:Nat} (hx:x < n):bZ (row n g) (.int (x:Int))= .ok (.int (g x)):=by
 refine pQ (i:=x) ?_
 rw[List.getElem?_map,List.getElem?_range hx];rfl
theorem sS {y:Nat} (hy:y < h):bZ (bJ w h f) (.int (y:Int))= .ok (row w (f y)):=by
 refine pQ (i:=y) ?_
 rw[List.getElem?_map,List.getElem?_range hy];rfl
theorem pZ {α:Type} {p:Nat->D} {x:Nat} (hx:x < n):bZ (.lst ((List.range n).map p)) (.int (x:Int))= .ok (p x):=by
 refine T7 (i:=x) ?_
 rw[List.getElem?_map,List.getElem?_range hx];rfl
theorem Np (h1:1<=n) (ju:n<=20):oE [row n g]= .ok (.lst ((List.range n).map λ x=> .int (gap n g x))):=by
 refine cH (aM (bH (au (bx (aB rfl) qT) rfl (Ei h1)) rfl) (bN (cQ (c:=λ (x:Nat)=>D.int (x:Int)) (h:=λ x=> .int (gap n g x)) (l:=List.range n) (mL (aB (bx (aB rfl) qT)) (by exact G3 ju)) (by rw[List.length_range];exact dY ju) λ x hx=>?_)))
 have hx:=List.mem_range.mp hx
 exact c7 rfl (bx (aB (au (x:= .int (g (x - 1))) (y:= .int (g (min (x+1) (n - 1)))) (au rfl (bx (aD (au rfl rfl rfl) (aB rfl)) abd) (lM (by exact Dg hx))) (au rfl (bx (aD (x:= .int ((x+1:Nat):Int)) (au rfl rfl rfl) (aB rfl)) min1) (lM (by exact ago h1))) rfl)) rfl)
theorem adK (o:Ok w h f):qP [bJ w h f]= .ok (bJ w h (UL w h f)):=by
 have ju:=o.h2
 have w20:=o.w2
 refine cH (aM (bH (bF (aB rfl) (size_eq o)) rfl)
  (aM (bH (cQ (c:=λ y=>row w (f y)) (h:=λ y=> .lst ((List.range w).map λ x=> .int (gap w (f y) x))) (l:=List.range h) (jf rfl) (by rw[List.length_range];exact dY ju) λ y hy=>c7 rfl (bF (aB rfl) (Np o.w1 o.w2))) rfl)
  (aM (bH (cQ (c:=λ x=>row h λ y=>f y x) (h:=λ x=> .lst ((List.range h).map λ y=> .int (gap h (λ y=>f y x) y))) (l:=List.range w) (jf (bF (aB rfl) (adH o))) (by rw[List.length_range];exact dY w20) λ y hy=>c7 rfl (bF (aB rfl) (Np o.h1 o.h2))) rfl)
  (bN (bx (aB (cQ (c:=λ (y:Nat)=>D.int (y:Int)) (h:=λ y=>row w (UL w h f y)) (l:=List.range h) (mL (aB rfl) (by exact G3 ju)) (by rw[List.length_range];exact dY ju) λ y hy=>?_)) rfl)))))
 have hy:=List.mem_range.mp hy
 refine c7 rfl (bx (aB (cQ (c:=λ (x:Nat)=>D.int (x:Int)) (h:=λ x=> .int (UL w h f y x)) (l:=List.range w) (mL (aB rfl) (by exact G3 w20)) (by rw[List.length_range];exact dY w20) λ x hx=>?_)) rfl)
 have hx:=List.mem_range.mp hx
 exact c7 rfl (au (x:= .int (gap w (f y) x)) (y:= .int (gap h (λ y=>f y x) y)) (au (au rfl rfl (pZ (α:=D) hy)) rfl (pZ (α:=D) hx)) (au (au rfl rfl (pZ (α:=D) hx)) rfl (pZ (α:=D) hy)) rfl)
noncomputable def gA (T:Nat->Int):D:= .tup [.int (T 0),.int (T 1),.int (T 2)]
noncomputable def tab (w h:Nat) (T:Nat->Nat->Nat->Int):D:= .lst ((List.range h).map λ y=> .lst ((List.range w).map λ x=>gA (T y x)))
noncomputable def mV (w:Nat) (f:Nat->Nat->Int) (y x i:Nat):Int:=gap w (f y) x+(if i=0 then ab (f (y - 1) x - f y (x - 1)) else if i=1 then 0 else ab (f (y - 1) x - f y (min (x+1) (w - 1))))
noncomputable def agQ:aq->So:=(bA (bV (bin (λ ρ=>ak ρ 7) (aF u9 (ao (bin (bin (λ ρ=>ak ρ 3) (λ ρ=>ak ρ 6) bZ) (bin (λ ρ=>ak ρ 2) (aF maxD (ao (bin (λ ρ=>ak ρ 6) (λ Z=> .ok (.int 1)) dX) (ao (λ Z=> .ok (.int 0)) (λ Z=> .ok [])))) bZ) dX) (λ Z=> .ok []))) cF) (aV 8)) (bA (bV (bin (λ ρ=>ak ρ 7) (aF u9 (ao (bin (bin (λ ρ=>ak ρ 3) (λ ρ=>ak ρ 6) bZ) (bin (λ ρ=>ak ρ 2) (aF minD (ao (bin (λ ρ=>ak ρ 6) (λ Z=> .ok (.int 1)) cF) (ao (λ ρ=>ak ρ 4) (λ Z=> .ok [])))) bZ) dX) (λ Z=> .ok []))) cF) (aV 9)) (qD 5 (dh (ao (λ ρ=>ak ρ 8) (ao (λ ρ=>ak ρ 7) (ao (λ ρ=>ak ρ 9) (λ Z=> .ok []))))))))
theorem Ej {i:Nat} {u:aq->R D} {d:D} {ds:List D} (e:u ρ= .ok d) (h:ρ[i]?=some (some (.lst ds))) (hl:ds.length < 1000000):qD i u ρ= .nx (ρ.set i (some (.lst (ds++[d])))):=by
 unfold qD
 rw[e]
 simp only[J1,nP,h]
 rw[if_pos hl]
theorem afF (h1:1<=w) {y x:Nat} (hx:x < w) {e0 e1 e8 e9:Option Ent} {acc:List D} (hl:acc.length < 1000000):
  ∃ z8 z9,agQ [e0,e1,vA (row w (f y)),vA (row w (f (y - 1))),vA (.int ((w - 1:Nat):Int)),some (.lst acc),vA (.int (x:Int)),vA (.int (gap w (f y) x)),e8,e9] =
   .nx [e0,e1,vA (row w (f y)),vA (row w (f (y - 1))),vA (.int ((w - 1:Nat):Int)),some (.lst (acc++[gA (mV w f y x)])),vA (.int (x:Int)),vA (.int (gap w (f y) x)),z8,z9]:=by
 refine⟨_,_,aM (bH (d:= .int (mV w f y x 0)) (au (x:= .int (gap w (f y) x)) (y:= .int (ab (f (y - 1) x - f y (x - 1)))) rfl (bx (aB (au (x:= .int (f (y - 1) x)) (y:= .int (f y (x - 1))) (au rfl rfl (lM hx)) (au rfl (bx (aD (au rfl rfl rfl) (aB rfl)) abd) (lM (by exact Dg hx))) rfl)) rfl) rfl) rfl)
  (aM (bH (d:= .int (mV w f y x 2)) (au (x:= .int (gap w (f y) x)) (y:= .int (ab (f (y - 1) x - f y (min (x+1) (w - 1))))) rfl (bx (aB (au (x:= .int (f (y - 1) x)) (y:= .int (f y (min (x+1) (w - 1)))) (au rfl rfl (lM hx)) (au rfl (bx (aD (x:= .int ((x+1:Nat):Int)) (au rfl rfl rfl) (aB rfl)) min1) (lM (by exact ago h1))) rfl)) rfl) rfl) rfl)
  (Ej (d:=gA (mV w f y x)) ((eN (aD rfl (aD rfl (aB rfl)))).trans ?_) rfl hl))⟩
 have:mV w f y x 1=gap w (f y) x:=by simp[mV]
 rw[gA,this]
theorem join_loop (h1:1<=w) {y:Nat} {e0 e1:Option Ent}:∀{xs:List Nat} {acc:List D} {e6 e7 e8 e9:Option Ent},(∀x∈xs,x < w)->acc.length+xs.length<=1000->
  ∃ z6 z7 z8 z9,forL (eV (eX 2 (bR (aV 6) (bR (aV 7) nilG)))) agQ (xs.map λ (x:Nat)=>D.tup [.int (x:Int),.int (gap w (f y) x)]) [e0,e1,vA (row w (f y)),vA (row w (f (y - 1))),vA (.int ((w - 1:Nat):Int)),some (.lst acc),e6,e7,e8,e9] =
   .nx [e0,e1,vA (row w (f y)),vA (row w (f (y - 1))),vA (.int ((w - 1:Nat):Int)),some (.lst (acc++xs.map λ x=>gA (mV w f y x))),z6,z7,z8,z9]
 |[],acc,e6,e7,e8,e9,_,_=>⟨e6,e7,e8,e9,by rw[List.map_nil,List.map_nil,List.append_nil];rfl⟩
 | x::xs,acc,e6,e7,e8,e9,hx,hl=>by
  rw[List.length_cons] at hl
  refine bc λ zQ=>?_
  obtain⟨z8,z9,e⟩:=afF (f:=f) (y:=y) h1 (hx x (by simp)) (e0:=e0) (e1:=e1) (e8:=e8) (e9:=e9) (acc:=acc) (by exact akW hl)
  obtain⟨y6,y7,y8,y9,e'⟩:=join_loop h1 (y:=y) (e0:=e0) (e1:=e1) (xs:=xs) (acc:=acc++[gA (mV w f y x)]) (e6:=vA (.int (x:Int))) (e7:=vA (.int (gap w (f y) x))) (e8:=z8) (e9:=z9) (λ z hz=>hx z (by simp[hz])) (by simp;exact aaF hl)
  apply zQ;clear zQ
  refine⟨y6,y7,y8,y9,?_⟩
  rw[List.append_assoc] at e'
  rw[List.map_cons,List.map_cons]
  exact iU rfl e e'
theorem Qk {p:Nat->D}:∀{n m:Nat},rW m ((List.range' m n).map p)=(List.range' m n).map λ (x:Nat)=>D.tup [.int (x:Int),p x]
 |0,_=>rfl
 |n+1,m=>by rw[List.range'_succ,List.map_cons,List.map_cons,Hs,Qk]
theorem uM {fa:aq->R (List D)} {x:D} {n:Nat} {p:Nat->D} (e:fa ρ= .ok [x]) (h:jj x= .ok ((List.range n).map p)):(λ ρ=>(fa ρ).bind rY) ρ= .ok ((List.range n).map λ (y:Nat)=>D.tup [.int (y:Int),p y]):=by
 show (fa ρ).bind rY=_
 rw[e,R.bL,ahc,h,R.bL,List.range_eq_range',Qk]
theorem QK (o:Ok w h f) {y:Nat} (hy:y < h):jZ [bJ w h f,.int (y:Int)]= .ok (.lst ((List.range w).map λ x=>gA (mV w f y x))):=by
 have w20:=o.w2
 obtain⟨z6,z7,z8,z9,e⟩:=join_loop (f:=f) (y:=y) o.w1 (e0:=vA (bJ w h f)) (e1:=vA (.int (y:Int))) (xs:=List.range w) (acc:=[]) (e6:=none) (e7:=none) (e8:=none) (e9:=none) (λ x hx=>List.mem_range.mp hx) (by rw[List.length_range,List.length_nil];exact akX w20)
 exact cH (aM (bH (au rfl rfl (sS hy)) rfl) (aM (bH (au rfl (bx (aD (au rfl rfl rfl) (aB rfl)) abd) (sS (by exact Dg hy))) rfl) (aM (bH (au (bx (aB rfl) qT) rfl (Ei o.w1)) rfl) (aM (lZ rfl)
  (aM (nZ (uM (aB (bF (aB rfl) (Np o.w1 o.w2))) rfl) e) (bN (d:= .lst ((List.range w).map λ x=>gA (mV w f y x))) rfl))))))
theorem qW {a b:Str}:nW (.str a) (.str b)= .ok (.bl (a ==b)):=by
 rw[nW,if_pos (by simp[jr,jt,uo,uq,ur,uw])]
 show R.ok (D.bl (gk (.str a) (.str b)))=_
 simp[aN,aO,aP,aQ,aR,aL,aK]
noncomputable def wo3 (w h:Nat) (f:Nat->Nat->Int) (y x i:Nat):Int:=UL w h f y x
theorem ahw (o:Ok w h f):pH [bJ w h f,.str "worth"]= .ok (tab w h (wo3 w h f)):=by
 have ju:=o.h2
 have w20:=o.w2
 exact cH (jX (eO (bw (b:=true) (au rfl rfl qW)) (bN (cQ (c:=λ y=>row w (UL w h f y)) (h:=λ y=> .lst ((List.range w).map λ x=>gA (wo3 w h f y x))) (l:=List.range h) (jf (bF (aB rfl) (adK o))) (by rw[List.length_range];exact dY ju) λ y hy=>
  c7 rfl (cQ (c:=λ x=> .int (UL w h f y x)) (h:=λ x=>gA (wo3 w h f y x)) (l:=List.range w) (jf rfl) (by rw[List.length_range];exact dY w20) λ x hx=>c7 rfl (eN (aD rfl (aD rfl (aB rfl)))))))))
theorem ahx (o:Ok w h f):pH [bJ w h f,.str "joins"]= .ok (tab w h (mV w f)):=by
 have ju:=o.h2
 exact cH (aM (cZ (bw (b:=false) (au rfl rfl qW)) rfl) (bN (cQ (c:=λ (y:Nat)=>D.int (y:Int)) (h:=λ y=> .lst ((List.range w).map λ x=>gA (mV w f y x))) (l:=List.range h) (mL (aB (bx (aB rfl) qU)) (by exact G3 ju)) (by rw[List.length_range];exact dY ju) λ y hy=>
  c7 rfl (bF (aD rfl (aB rfl)) (QK o (List.mem_range.mp hy))))))
noncomputable def fare (T:Nat->Nat->Nat->Int) (s:Nat->Nat) (y:Nat):Int:=T y (s y) (s (y - 1)+1 - s y)
noncomputable def cost (h:Nat) (T:Nat->Nat->Nat->Int) (s:Nat->Nat):Int:=T 0 (s 0) 1+((List.range (h - 1)).map λ y=>fare T s (y+1)).sum
theorem Kp {T:Nat->Int} {p:Nat->D} {a b:Nat} (hb:b < w) (h1:b<=a+1) (h2:a<=b+1) (hp:p b=gA T):gU [.lst ((List.range w).map p),.int (a:Int),.int (b:Int)]= .ok (.int (T (a+1 - b))):=by
 refine cH (bN (au (x:=gA T) (y:= .int ((a+1 - b:Nat):Int)) (au rfl rfl ((pZ (α:=D) hb).trans (congrArg R.ok hp))) (au (au rfl rfl rfl) rfl ?_) (pQ (i:=a+1 - b) ?_)))
 ·show R.ok (D.int ((a:Int) - (b:Int)+1))=_
  rw[show (a:Int) - (b:Int)+1=((a+1 - b:Nat):Int) by exact akY h1]
 ·have:a+1 - b=0\/a+1 - b=1\/a+1 - b=2:=by exact akZ h2
  rcases this with e |e |e <;> rw[e] <;> rfl
theorem zM {m:Str} (hm:m= "worth"\/m= "joins"):jB [.str m]= .ok .non:=by
 rcases hm with rfl |rfl
 ·exact aaT (cZ (bw (b:=false) (au rfl rfl (by simp[zH,aaW,iG,aN,aO,aP,aQ,aR,aL,aK]))) rfl)
 ·exact aaT (cZ (bw (b:=false) (au rfl rfl (by simp[zH,aaW,iG,aN,aO,aP,aQ,aR,aL,aK]))) rfl)
noncomputable def tbl (m:Str) (w h:Nat) (f:Nat->Nat->Int):Nat->Nat->Nat->Int:=if m= "worth" then wo3 w h f else mV w f
end
section
variable {n w h:Nat} {g:Nat->Int} {f:Nat->Nat->Int} {s:Nat->Nat} {c:Int} {m:Str} {ρ:aq}
theorem Bb {F:List D->R D} {n j:Nat} {sel:List (Sum Nat D)} {fa fk:aq->R (List D)} {ds zs:List D} {d:D} (e1:fa ρ= .ok ds) (e2:fk ρ= .ok zs) (e3:F (ds++pickK .non sel zs)= .ok d) (hl:autoParam ((ds++pickK .non sel zs).length=n) bB._auto_1) (hj:autoParam (zs.length=j) bB._auto_1):oY F n j sel fa fk ρ= .ok d:=by
 rw[oY,e1,R.bL,e2,R.bL,if_pos hj,bh,if_pos hl,e3];rfl
theorem adL {p:Nat->Int} (hh:1<=h):((List.range h).map p).sum=p 0+((List.range (h - 1)).map λ y=>p (y+1)).sum:=by
 obtain⟨k,rfl⟩:∃k,h=k+1:=⟨h - 1,by exact JT hh⟩
 rw[List.range_succ_eq_map,List.map_cons,List.sum_cons,List.map_map];rfl
noncomputable abbrev clip (n:Nat) (X:Int):Int:=if (if X < ((n - 1:Nat):Int) then X else ((n - 1:Nat):Int)) > 0 then (if X < ((n - 1:Nat):Int) then X else ((n - 1:Nat):Int)) else 0
theorem Tj {X Y:Int} {x y:Nat} (o:Ok w h f) (hy:clip h Y=(y:Int)) (hyh:y < h) (hx:clip w X=(x:Int)) (hxw:x < w):gQ [bJ w h f,.int X,.int Y]= .ok (.int (f y x)):=by
 refine cH (bN (au (x:=row w (f y)) (y:= .int (x:Int)) (au rfl (bx (aD rfl (aB (bx (aD (au (bx (aB rfl) qU) rfl (Ei o.h1)) (aB rfl)) rfl))) ?_) (sS hyh)) (bx (aD rfl (aB (bx (aD (au (len0 o rfl) rfl (Ei o.w1)) (aB rfl)) rfl))) ?_) (lM hxw)))
 ·exact congrArg (λ z=>R.ok (D.int z)) hy
 ·exact congrArg (λ z=>R.ok (D.int z)) hx
theorem Hy {x:Nat} (hx:x < n):clip n (x:Int)=(x:Int):=by unfold clip;split <;> split <;> (first |exact rfl |exact alS (by assumption) |exact alT hx (by assumption) |exact alU hx (by assumption))
theorem aam {x:Nat} (hx:x < n):clip n ((x+1:Nat):Int)=((min (x+1) (n - 1):Nat):Int):=by unfold clip;split <;> split <;> (first |exact alV (by assumption) |exact alW (by assumption) |exact alX (by assumption) |exact alY (by assumption))
theorem aan {x:Nat} (hx:x < n):clip n ((x:Int) - 1)=((x - 1:Nat):Int):=by unfold clip;split <;> split <;> (first |exact alZ (by assumption) |exact al0 (by assumption) |exact al1 hx (by assumption) |exact al2 hx (by assumption))
theorem vI (o:Ok w h f) {x y:Nat} (hx:x < w) (hy:y < h) {e1 e4 e5:Option Ent}:aF u9 (ao (bin (aF (bh gQ 3) (ao (λ ρ=>ak ρ 0) (ao (bin (λ ρ=>ak ρ 2) (λ Z=> .ok (.int 1)) dX) (ao (λ ρ=>ak ρ 3) (λ Z=> .ok []))))) (aF (bh gQ 3) (ao (λ ρ=>ak ρ 0) (ao (bin (λ ρ=>ak ρ 2) (λ Z=> .ok (.int 1)) cF) (ao (λ ρ=>ak ρ 3) (λ Z=> .ok []))))) dX) (λ Z=> .ok []))
  [vA (bJ w h f),e1,vA (.int (x:Int)),vA (.int (y:Int)),e4,e5]= .ok (.int (gap w (f y) x)):=
 bx (aB (au (x:= .int (f y (x - 1))) (y:= .int (f y (min (x+1) (w - 1)))) (bF (aD rfl (aD (x:= .int ((x:Int) - 1)) (au rfl rfl rfl) (aB rfl))) (Tj o (Hy hy) hy (aan hx) (by exact Dg hx))) (bF (aD rfl (aD (x:= .int ((x+1:Nat):Int)) (au rfl rfl rfl) (aB rfl))) (Tj o (Hy hy) hy (aam hx) (by exact agB hx))) rfl)) rfl
theorem ajg (o:Ok w h f) {x y:Nat} (hx:x < w) (hy:y < h) {d:D}:gq [bJ w h f,.str "worth",.int (x:Int),.int (y:Int),d]= .ok (.int (UL w h f y x)):=by
 refine cH (aM (bH (vI o hx hy) rfl) (jX (eO (bw (b:=true) (au rfl rfl qW)) (bN (au (x:= .int (gap w (f y) x)) (y:= .int (gap h (λ y=>f y x) y)) rfl (bx (aB (au (x:= .int (f (y - 1) x)) (y:= .int (f (min (y+1) (h - 1)) x)) ?_ ?_ rfl)) rfl) rfl)))))
 ·exact bF (aD rfl (aD rfl (aB (x:= .int ((y:Int) - 1)) (au rfl rfl rfl)))) (Tj o (aan hy) (by exact Dg hy) (Hy hx) hx)
 ·exact bF (aD rfl (aD rfl (aB (x:= .int ((y+1:Nat):Int)) (au rfl rfl rfl)))) (Tj o (aam hy) (by exact agB hy) (Hy hx) hx)
theorem zN {c:aq->R Bool} {f g:aq->R D} {r:R D} (e:c ρ= .ok true) (h:f ρ=r):Dk c f g ρ=r:=by rw[Dk,e,R.bL,if_pos rfl,h]
theorem Hz {c:aq->R Bool} {f g:aq->R D} {r:R D} (e:c ρ= .ok false) (h:g ρ=r):Dk c f g ρ=r:=by rw[Dk,e,R.bL,if_neg (by decide),h]
theorem agR {i j:Int}:jW (.int i) (.int j)= .ok (.bl (!decide (i=j))):=by
 rw[jW,if_pos (by simp[jr,jt,uo,uq,ur,uw])]
 show R.ok (D.bl (!gk (.int i) (.int j)))=_
 by_cases h:i=j <;> simp[aN,aO,aP,aQ,aR,aL,aK,h]
theorem ahy (o:Ok w h f) {x y:Nat} (hx:x < w) (hy:y < h):gq [bJ w h f,.str "joins",.int (x:Int),.int (y:Int),.non]= .ok (.int (mV w f y x 1)):=by
 have e:mV w f y x 1=gap w (f y) x:=by simp[mV]
 rw[e]
 exact cH (aM (bH (vI o hx hy) rfl) (aM (cZ (bw (b:=false) (au rfl rfl qW)) rfl) (aM (cZ (Ho (bw (b:=false) (au rfl rfl rfl))) rfl) (bN rfl))))
theorem ajh (o:Ok w h f) {x y b:Nat} (hx:x < w) (hy:y+1 < h) (hb:b < w) (h1:b<=x+1) (h2:x<=b+1):gq [bJ w h f,.str "joins",.int (x:Int),.int ((y+1:Nat):Int),.int (b:Int)]= .ok (.int (mV w f (y+1) x (b+1 - x))):=by
 by_cases hbx:b=x
 ·subst hbx
  have e:mV w f (y+1) b (b+1 - b)=gap w (f (y+1)) b:=by simp[mV,show b+1 - b=1 by exact agv]
  rw[e]
  exact cH (aM (bH (vI o hx hy) rfl) (aM (cZ (bw (b:=false) (au rfl rfl qW)) rfl) (aM (cZ (pB (bw (b:=true) (au rfl rfl rfl)) (bw (au rfl rfl (aht rfl)))) rfl) (bN rfl))))
 ·have hne:jW (.int (b:Int)) (.int (x:Int))= .ok (.bl true):=by rw[agR,decide_eq_false (by exact al3 hbx)];rfl
  by_cases hlt:b < x
  ·have e:mV w f (y+1) x (b+1 - x)=gap w (f (y+1)) x+ab (f y x - f (y+1) (x - 1)):=by simp[mV,show b+1 - x=0 by exact al4 hlt]
   rw[e]
   exact cH (aM (bH (vI o hx hy) rfl) (aM (cZ (bw (b:=false) (au rfl rfl qW)) rfl) (aM (eO (pB (bw (b:=true) (au rfl rfl rfl)) (bw (au rfl rfl hne)))
    (bH (d:= .int (gap w (f (y+1)) x+ab (f y x - f (y+1) (x - 1)))) (au (x:= .int (gap w (f (y+1)) x)) (y:= .int (ab (f y x - f (y+1) (x - 1)))) rfl (bx (aB (au (x:= .int (f y x)) (y:= .int (f (y+1) (x - 1))) (au (au rfl (au (x:= .int ((y+1:Nat):Int)) rfl rfl (Ei (by exact Nat.succ_pos _))) (sS (y:=y+1 - 1) (by exact z0e hy))) rfl (lM hx)) (au (au rfl rfl (sS hy)) (zN (bw (au rfl rfl (am7 (by exact Int.ofNat_lt.mpr hlt)))) (au (x:= .int (x:Int)) rfl rfl (Ei (by exact al5 hlt)))) (lM (by exact Dg hx))) rfl)) rfl) rfl) rfl)) (bN rfl))))
  ·have e:mV w f (y+1) x (b+1 - x)=gap w (f (y+1)) x+ab (f y x - f (y+1) (x+1)):=by simp[mV,show b+1 - x=2 by exact al6 h1 hlt hbx,show min (x+1) (w - 1)=x+1 by exact al7 hb hlt hbx]
   have hf:ltI (.int (b:Int)) (.int (x:Int))= .ok (.bl false):=by
    show R.ok (D.bl (decide _))=_
    rw[decide_eq_false (by exact al8 hlt)]
   rw[e]
   exact cH (aM (bH (vI o hx hy) rfl) (aM (cZ (bw (b:=false) (au rfl rfl qW)) rfl) (aM (eO (pB (bw (b:=true) (au rfl rfl rfl)) (bw (au rfl rfl hne)))
    (bH (d:= .int (gap w (f (y+1)) x+ab (f y x - f (y+1) (x+1)))) (au (x:= .int (gap w (f (y+1)) x)) (y:= .int (ab (f y x - f (y+1) (x+1)))) rfl (bx (aB (au (x:= .int (f y x)) (y:= .int (f (y+1) (x+1))) (au (au rfl (au (x:= .int ((y+1:Nat):Int)) rfl rfl (Ei (by exact Nat.succ_pos _))) (sS (y:=y+1 - 1) (by exact z0e hy))) rfl (lM hx)) (au (au rfl rfl (sS hy)) (Hz (bw (au rfl rfl hf)) (au (x:= .int (x:Int)) (y:= .int 1) rfl rfl rfl)) (lM (x:=x+1) (by exact al9 hb hlt hbx))) rfl)) rfl) rfl) rfl)) (bN rfl))))
noncomputable def bef (h:Nat) (s:Nat->Nat):List D:=D.non::(List.range (h - 1)).map λ y=>D.int ((s y:Nat):Int)
theorem aji (hh:1<=h) (ju:h<=20) {e0 e1 e3:Option Ent}:bin (dh (ao (λ Z=> .ok .non) (λ Z=> .ok []))) (dG (λ ρ=>ak ρ 2) (λ Z=> .ok none) (λ ρ=>(((tu (λ Z=> .ok (.int 1))):aq->R D) ρ).bind ou)) cF [e0,e1,vA (sm h s),e3]= .ok (.tup (bef h s)):=by
 have e:dG (λ ρ=>ak ρ 2) (λ Z=> .ok none) (λ ρ=>(((tu (λ Z=> .ok (.int 1))):aq->R D) ρ).bind ou) [e0,e1,vA (sm h s),e3]= .ok (.tup ((List.range (h - 1)).map λ y=>D.int ((s y:Nat):Int))):=by
  show R.ok (D.tup (lg ((List.range h).map λ y=>D.int ((s y:Nat):Int)) none (some (-1))))=_
  have e2:∀{n d:Nat},HT.sIx n d (some (-1))=n - 1:=λ {n d}=>by
   show (if (-1:Int) < 0 then ((-1:Int)+(n:Int)).toNat else min (-1:Int).toNat n)=n - 1
   rw[if_pos (by decide)];exact ama
  rw[lg,e2,Eh,Nat.sub_zero,List.length_map,List.length_range,List.drop_zero,<-List.map_take,List.take_range,Nat.min_eq_left (by exact Nat.sub_le _ _)]
 exact au (eN (aB rfl)) e (nD (by simp;exact agC ju))
theorem ajj {y:Nat} (hy:y < h):bZ (.tup (bef h s)) (.int (y:Int))= .ok (if y=0 then .non else .int ((s (y - 1):Nat):Int)):=by
 refine pQ (i:=y) ?_
 cases y with
 |zero=>rfl
 | succ y=>
  show ((List.range (h - 1)).map λ y=>D.int ((s y:Nat):Int))[y]?=_
  rw[List.getElem?_map,List.getElem?_range (by exact amb hy)];rfl
theorem step_eq (hm:m= "worth"\/m= "joins") (o:Ok w h f) (q:vH w h s) {y:Nat} (hy:y < h):gq [bJ w h f,.str m,.int ((s y:Nat):Int),.int (y:Int),if y=0 then .non else .int ((s (y - 1):Nat):Int)]= .ok (.int (if y=0 then tbl m w h f 0 (s 0) 1 else fare (tbl m w h f) s y)):=by
 rcases hm with rfl |rfl
 ·rw[ajg o (q.lt y hy) hy]
  by_cases h0:y=0
  ·subst h0;rfl
  ·rw[if_neg h0];rfl
 ·by_cases h0:y=0
  ·subst h0
   rw[if_pos rfl,if_pos rfl]
   exact ahy o (q.lt 0 hy) hy
  ·obtain⟨k,rfl⟩:∃k,y=k+1:=⟨y - 1,by exact amc h0⟩
   rw[if_neg h0,if_neg h0]
   obtain⟨k1,k2⟩:=q.st k hy
   exact ajh o (q.lt _ hy) hy (q.lt k (by exact z0e hy)) k2 k1
theorem Yc (hm:m= "worth"\/m= "joins") (o:Ok w h f) (q:vH w h s):jR [bJ w h f,.str m,sm h s]= .ok (.int (cost h (tbl m w h f) s)):=by
 have ju:=o.h2
 have e:((List.range h).map λ y=>if y=0 then tbl m w h f 0 (s 0) 1 else fare (tbl m w h f) s y).sum=cost h (tbl m w h f) s:=by
  rw[adL o.h1,if_pos rfl]
  rfl
 rw[<-e]
 refine cH (aM (bH (aji o.h1 ju) rfl) (bN (bx (aB (cQ (c:=λ (y:Nat)=>D.tup [.int (y:Int),.int ((s y:Nat):Int)]) (h:=λ y=> .int (if y=0 then tbl m w h f 0 (s 0) 1 else fare (tbl m w h f) s y)) (l:=List.range h) (uM (aB rfl) rfl) (by rw[List.length_range];exact dY ju) λ y hy=>?_)) ag2)))
 have hy:=List.mem_range.mp hy
 exact c7 rfl (bF (aD rfl (aD rfl (aD rfl (aD rfl (aB (au rfl rfl (ajj hy))))))) (step_eq hm o q hy))
end
end gZ
namespace gZ
open PySem PySem.Spec L2 Pu
noncomputable abbrev Wy:=Int×Int×List Int
noncomputable def fl (t:Wy):List Int:=t.1::t.2.1::t.2.2
noncomputable def un (l:List Int):Wy:=(l.getD 0 0,l.getD 1 0,l.drop 2)
theorem abe (t:Wy):un (fl t)=t:=rfl
theorem UW {a b:Wy} (h:fl a=fl b):a=b:=by have:=congrArg un h;simpa[abe] using this
noncomputable def dZ (t:Wy):D:= .tup [.int t.1,.int t.2.1,.tup (t.2.2.map .int)]
theorem Bc (t:Wy):dZ t=jU (fl t):=rfl
noncomputable def cY (l:List Wy):D:= .lst (l.map dZ)
section
variable {n w h:Nat} {g:Nat->Int} {f:Nat->Nat->Int} {ρ:aq}
theorem aao {i:Nat} {u:aq->R D} {ds es:List D} (h:ρ[i]?=some (some (.lst ds))) (e:u ρ= .ok (.lst es)) (hl:ds.length+es.length<=1000000):Ji i u ρ= .nx (ρ.set i (some (.lst (ds++es)))):=by
 unfold Ji
 simp only[h,e,J1,nP]
 rw[if_pos hl]
theorem ahz {i k:Nat} {ds es:List D} (h:ρ[i]?=some (some (.lst ds))) (h2:ρ[k]?=some (some (.lst es))) (hl:ds.length < 1000000):M8 i k ρ= .nx ((ρ.set i (some (.lst (ds++[.lst es])))).set k (some (.val (.lst es)))):=by
 unfold M8
 simp only[h,h2]
 rw[if_pos hl]
theorem U0 {i a:Nat} {G:List D->R D} {n:Nat} {fa:aq->R (List D)} {ds:List D} {d:D} (h:ρ[i]?=some (some (.obj (.fn a)))) (e:fa ρ= .ok ds) (e2:G ds= .ok d) (hl:autoParam (ds.length=n) bB._auto_1):Ht i a G n fa ρ= .ok d:=by
 unfold Ht
 simp only[h,e,if_true,R.bL,bh,hl,e2]
 rfl
theorem ajk {i:Nat} {u:aq->R D} {ds:List D} {k:Int} {d:D} (h:ρ[i]?=some (some (.lst ds))) (e:u ρ= .ok (.int k)) (e2:bZ (.lst ds) (.int k)= .ok d):ixO i u ρ= .ok d:=by
 unfold ixO
 simp only[h,e,R.bL,e2]
theorem HB {u:aq->R D} {ds:List D} (e:u ρ= .ok (.lst ds)):Uu u ρ= .ok (!ds.isEmpty):=by unfold Uu;rw[e];rfl
theorem p7 {m:Nat} {s:aq->So} {es:List Ent} {d:D} (e:s (es.map some++List.replicate m none)= .rt d):lq m s es= .ok d:=by rw[lq,e]
noncomputable def nr (w x:Nat):List Nat:=List.range' (x - 1) (min (x+2) w - (x - 1))
theorem Kq {x p:Nat} (hx:x < w):p∈nr w x↔p < w/\p<=x+1/\x<=p+1:=by
 unfold nr
 rw[List.mem_range'_1,Nat.add_sub_cancel' (Nat.le_min.mpr ⟨z0b (Nat.sub_le x 1) (Nat.le_add_right x 2),z0b (Nat.sub_le x 1) (z0e hx)⟩),Nat.lt_min]
 exact⟨λ h=>⟨h.2.2,Nat.le_of_lt_succ h.2.1,Nat.le_add_of_sub_le h.1⟩,λ h=>⟨Nat.sub_le_of_le_add h.2.2,Nat.lt_succ_of_le h.2.1,h.1⟩⟩
theorem adM {x:Nat}:(nr w x).length<=3:=by unfold nr;rw[List.length_range'];exact ak0
theorem ahA {x:Nat} (hx:x < w) (hw:w<=20):zL [.int (x:Int),.int (w:Int)]= .ok (.lst ((nr w x).map λ (p:Nat)=>D.int (p:Int))):=by
 have e2:minD [.int ((x+2:Nat):Int),.int (w:Int)]= .ok (.int ((min (x+2) w:Nat):Int)):=by
  show R.ok (D.int (if (w:Int) < ((x+2:Nat):Int) then (w:Int) else ((x+2:Nat):Int)))=_
  congr 2
  by_cases hz:w < x+2
  ·rw[if_pos (Int.ofNat_lt.mpr hz),Nat.min_eq_right (z0e hz)]
  ·rw[if_neg (λ q=>hz (Int.ofNat_lt.mp q)),Nat.min_eq_left (Nat.le_of_not_lt hz)]
 refine cH (bN (bx (aD (x:= .int ((x - 1:Nat):Int)) (bx (aD (au rfl rfl rfl) (aB rfl)) abd) (aB (x:= .int ((min (x+2) w:Nat):Int)) (bx (aD (x:= .int ((x+2:Nat):Int)) (au rfl rfl rfl) (aB rfl)) e2))) ?_))
 show (if _ then _ else _)=_
 have b1:x - 1<=1000:=z0b (Nat.sub_le x 1) (z0b (z0e hx) (z0b hw (by decide)))
 have b2:min (x+2) w<=1000:=z0b (Nat.min_le_right _ _) (z0b hw (by decide))
 rw[if_pos ⟨Int.le_trans (by decide) (z0a _),Int.ofNat_le.mpr b1,Int.le_trans (by decide) (z0a _),Int.ofNat_le.mpr b2⟩]
 congr 2
 unfold upto nr
 rw[Int.toNat_sub,List.range'_eq_map_range,List.map_map]
 refine List.map_congr_left λ i Z=>?_
 simp
noncomputable def gW (c:Int) (t:Wy):Wy:=(t.1,t.2.1+c,t.2.2)
noncomputable def cands (w:Nat) (C:Nat->List Wy) (T:Nat->Nat->Int) (x:Nat):List Wy:=(nr w x).flatMap λ p=>(C p).map (gW (T p (x+1 - p)))
variable {C:Nat->List Wy} {T:Nat->Nat->Int}
theorem ajl {x p:Nat} (hx:x < w) (hp:p∈nr w x) (hC:(C p).length<=1) {e5:Option Ent} {acc:List D} (hl:acc.length<=1000):
  onB [vA (.lst ((List.range w).map λ x=>cY (C x))),vA (.lst ((List.range w).map λ x=>gA (T x))),vA (.int (x:Int)),some (.lst acc),vA (.int (p:Int)),e5] =
   .nx [vA (.lst ((List.range w).map λ x=>cY (C x))),vA (.lst ((List.range w).map λ x=>gA (T x))),vA (.int (x:Int)),some (.lst (acc++((C p).map (gW (T p (x+1 - p)))).map dZ)),vA (.int (p:Int)),vA (.int (T p (x+1 - p)))]:=by
 obtain⟨h1,h2,h3⟩:=(Kq hx).mp hp
 refine aM (bH (bF (aD rfl (aD rfl (aB rfl))) (Kp (T:=T p) (p:=λ x=>gA (T x)) h1 (by assumption) (by assumption) rfl)) rfl) ?_
 refine aao (ds:=acc) rfl (cQ (c:=dZ) (h:=λ t=>dZ (gW (T p (x+1 - p)) t)) (l:=C p) (qJ (au rfl rfl (pZ (α:=D) h1))) (by exact SX hC) λ t ht=>?_) (by simp;exact agp hl hC) |>.trans ?_
 ·exact c7 rfl (eN (aD rfl (aD (x:= .int (t.2.1+T p (x+1 - p))) (au rfl rfl rfl) (aB rfl))))
 ·rw[List.map_map];rfl
theorem aap {x:Nat} (hx:x < w) (hC:∀p < w,(C p).length<=1):∀{ps:List Nat} {acc:List D} {e4 e5:Option Ent},(∀p∈ps,p∈nr w x)->acc.length+ps.length<=1000->
  ∃ z4 z5,forL (aV 4) onB (ps.map λ (p:Nat)=>D.int (p:Int)) [vA (.lst ((List.range w).map λ x=>cY (C x))),vA (.lst ((List.range w).map λ x=>gA (T x))),vA (.int (x:Int)),some (.lst acc),e4,e5] =
   .nx [vA (.lst ((List.range w).map λ x=>cY (C x))),vA (.lst ((List.range w).map λ x=>gA (T x))),vA (.int (x:Int)),some (.lst (acc++(ps.flatMap λ p=>(C p).map (gW (T p (x+1 - p)))).map dZ)),z4,z5]
 |[],acc,e4,e5,_,_=>⟨e4,e5,by simp[Dm]⟩
 | p::ps,acc,e4,e5,hp,hl=>by
  rw[List.length_cons] at hl
  have hpn:=hp p (by simp)
  have hpw:=((Kq hx).mp hpn).1
  have hc:=hC p hpw
  obtain⟨z4,z5,e⟩:=aap hx hC (ps:=ps) (acc:=acc++((C p).map (gW (T p (x+1 - p)))).map dZ) (e4:=vA (.int (p:Int))) (e5:=vA (.int (T p (x+1 - p)))) (λ q hq=>hp q (by simp[hq])) (by simp;exact agq hl hc)
  refine⟨z4,z5,iU rfl (ajl hx hpn hc (by exact S5 hl)) (e.trans ?_)⟩
  rw[List.flatMap_cons,List.map_append,List.append_assoc]
theorem adN {x:Nat} (hx:x < w) (hw:w<=20) (hC:∀p < w,(C p).length<=1):qR [.lst ((List.range w).map λ x=>cY (C x)),.lst ((List.range w).map λ x=>gA (T x)),.int (x:Int)]= .ok (.lst ((cands w C T x).map dZ)):=by
 obtain⟨z4,z5,e⟩:=aap (T:=T) hx hC (ps:=nr w x) (acc:=[]) (e4:=none) (e5:=none) (λ p hp=>hp) (by have:=adM (w:=w) (x:=x);simp;exact ak1 this)
 have hlen:cM [.lst ((List.range w).map λ x=>cY (C x))]= .ok (.int (w:Int)):=by simp[uX,qF]
 refine cH (aM (lZ rfl) (aM (nZ (qJ (bF (aD rfl (aB (bx (aB rfl) hlen))) (ahA hx hw))) e) (bN rfl)))
end
end gZ
namespace gZ
open PySem PySem.Spec L2 Pu
section
variable {n w h:Nat} {g:Nat->Int} {f:Nat->Nat->Int} {ρ:aq}
theorem nF {i j:Int}:nW (.int i) (.int j)= .ok (.bl (decide (i=j))):=by
 rw[nW,if_pos (by simp[jr,jt,uo,uq,ur,uw])]
 show R.ok (D.bl (gk (.int i) (.int j)))=_
 by_cases h:i=j <;> simp[aN,aO,aP,aQ,aR,aL,aK,h]
noncomputable def cC (cs:List Wy):List Wy:=((mC (cs.map fl)).take 1).map un
noncomputable def pre (x:Nat) (t:Wy):Wy:=(t.1,t.2.1,(x:Int)::t.2.2)
theorem Bd:∀cs:List Wy,pF (cs.map dZ)=some (cs.map fl)
 |[]=>rfl
 | t::cs=>by
  rw[List.map_cons,pF,Bd cs,Bc,show oA (jU (fl t))=some (fl t) from DP]
  rfl
theorem U3 {cs:List Wy}:∀l∈mC (cs.map fl),fl (un l)=l:=λ l hl=>by
 obtain⟨t,_,rfl⟩:=List.mem_map.mp ((kW _).mem_iff.mp hl)
 rw[abe]
theorem Bf {cs:List Wy}:∀t∈cC cs,t∈cs:=λ t ht=>by
 obtain⟨l,hl,rfl⟩:=List.mem_map.mp ht
 have hl:=List.mem_of_mem_take hl
 obtain⟨t,h1,rfl⟩:=List.mem_map.mp ((kW _).mem_iff.mp hl)
 rw[abe];exact h1
theorem ux {cs:List Wy}:(cC cs).length<=1:=by unfold cC;simp;exact Nat.min_le_left _ _
theorem Cz {cs:List Wy} {x:Nat} (hl:cs.length < 64) (hn:(cs.map fl).Nodup) (hp:∀t∈cs,t.2.2.length<=100):d8 1 [.int (x:Int),.lst (cs.map dZ)]= .ok (cY ((cC cs).map (pre x))):=by
 have e1:vg [.lst (cs.map dZ)]= .ok (.lst ((mC (cs.map fl)).map jU)):=by
  rw[Us,Bd]
  show (if _ then _ else _)=_
  rw[if_pos ⟨by simpa using hl,hn⟩]
 have e2:lg ((mC (cs.map fl)).map jU) none (some 1)=(cC cs).map dZ:=by
  have e3:∀{n d:Nat},HT.sIx n d (some 1)=min 1 n:=λ {n d}=>by
   show (if (1:Int) < 0 then ((1:Int)+(n:Int)).toNat else min (1:Int).toNat n)=min 1 n
   rw[if_neg (by decide)];rfl
  rw[lg,e3,Eh,Nat.sub_zero,List.drop_zero,<-List.map_take]
  have e4:∀l:List (List Int),l.take (min 1 (l.map jU).length)=l.take 1:=λ l=>by cases l <;> simp
  rw[e4]
  unfold cC
  rw[List.map_map]
  refine List.map_congr_left λ l hl=>?_
  show jU l=dZ (un l)
  rw[Bc,U3 l (List.mem_of_mem_take hl)]
 have e5:cY ((cC cs).map (pre x))= .lst ((cC cs).map λ t=>dZ (pre x t)):=by unfold cY;rw[List.map_map];rfl
 rw[e5]
 refine p7 (bN (cQ (c:=dZ) (h:=λ t=>dZ (pre x t)) (l:=cC cs) (qJ (ds:=(cC cs).map dZ) ?_) (by have:=ux (cs:=cs);exact SX this) λ t ht=>?_))
 ·show qK _ _ _ _=_
  unfold qK
  rw[bx (aB rfl) e1]
  show R.ok (D.lst (lg _ none (some 1)))=_
  rw[e2]
 ·refine c7 rfl (eN (aD rfl (aD rfl (aB (x:= .tup ((((x:Int)::t.2.2)).map .int)) (au (eN (aB rfl)) rfl ?_)))))
  have:=hp t (Bf t ht)
  exact nD (xs:=[.int (x:Int)]) (ys:=t.2.2.map .int) (by simp;exact ak2 this)
end
end gZ
namespace gZ
open PySem PySem.Spec L2 Pu
noncomputable def f9 (m:Int):Int:=if m=2 then 1 else 0
noncomputable def sb (c:Int) (t:Wy):Wy:=(t.1 - c,t.2.1,t.2.2)
noncomputable def mW (x:Nat) (m:Int) (cs:List Wy):List Wy:=if m=1 then [] else ((cC cs).map (pre x)).map (sb (f9 m))
section
variable {w h a y:Nat} {T:Nat->Nat->Nat->Int} {M:Nat->Nat->Int} {ρ:aq}
theorem afG {l:List Wy} (hl:l.length<=1) {m:Int} {e0 e1 e2 e3 e4 e5 e7 e10:Option Ent} {acc:List D} (ha:acc.length<=1000):
  agP [e0,e1,e2,e3,e4,e5,some (.lst acc),e7,vA (.int m),vA (cY l),e10]= .nx [e0,e1,e2,e3,e4,e5,some (.lst (acc++[cY (l.map (sb (f9 m)))])),e7,vA (.int m),vA (cY l),vA (.int (f9 m))]:=by
 have e:(Dk (cL (bin (λ ρ=>ak ρ 8) (λ Z=> .ok (.int 2)) nW)) (λ Z=> .ok (.int 1)) (λ Z=> .ok (.int 0))) [e0,e1,e2,e3,e4,e5,some (.lst acc),e7,vA (.int m),vA (cY l),e10]= .ok (.int (f9 m)):=by
  unfold f9
  by_cases hm:m=2
  ·rw[if_pos hm];exact zN (bw (au rfl rfl (by rw[nF,decide_eq_true hm]))) rfl
  ·rw[if_neg hm];exact Hz (bw (au rfl rfl (by rw[nF,decide_eq_false hm]))) rfl
 refine aM (bH e rfl) ?_
 have e2:cY (l.map (sb (f9 m)))= .lst (l.map λ t=>dZ (sb (f9 m) t)):=by unfold cY;rw[List.map_map];rfl
 rw[e2]
 refine Ej (ds:=acc) (cQ (c:=dZ) (h:=λ t=>dZ (sb (f9 m) t)) (l:=l) (qJ rfl) (by exact SX hl) λ t ht=>?_) rfl (by exact aaG ha)
 exact c7 rfl (eN (aD (x:= .int (t.1 - f9 m)) (au rfl rfl rfl) (aD rfl (aB rfl))))
inductive Ben (w:Nat) (T:Nat->Nat->Nat->Int) (y:Nat):List D->(Nat->List Wy)->Prop
 |last:Ben w T y [] λ Z=>[(0,0,[])]
 |more (rs:List D) (C:Nat->List Wy):(∀p < w,(C p).length<=1)->Ben w T y (rs++[.lst ((List.range w).map λ x=>cY (C x))]) (cands w C (T (y+1)))
theorem afH {rows:List D} {cs:Nat->List Wy} (B:Ben w T y rows cs) (hy:rows≠[]->y+1 < h) {x:Nat} (hx:x < w) (hw:w<=20) (hl:(cs x).length < 64) (hn:((cs x).map fl).Nodup) (hp:∀t∈cs x,t.2.2.length<=100) {m:Int} {e1 e6 e9 e10:Option Ent}:
  agO a (d8 1) [vA (tab w h T),e1,vA (.tup []),some (.obj (.fn a)),some (.lst rows),vA (.int (y:Int)),e6,vA (.int (x:Int)),vA (.int m),e9,e10] =
   .nx [vA (tab w h T),e1,vA (.tup []),some (.obj (.fn a)),some (.lst rows),vA (.int (y:Int)),e6,vA (.int (x:Int)),vA (.int m),vA (cY (if m=1 then [] else (cC (cs x)).map (pre x))),e10]:=by
 have th:∀(u:Option Ent),aaS (vA (.int m))=vA (.int m):=λ Z=>rfl
 by_cases hm:m=1
 ·rw[if_pos hm]
  exact eO (bw (au rfl rfl (by rw[nF,decide_eq_true hm]))) (bH (iB rfl) rfl)
 ·rw [if_neg hm]
  refine cZ (bw (au rfl rfl (by rw[nF,decide_eq_false hm]))) ?_
  cases B with
  | last=>
   refine eO (pP (HB (ds:=[]) rfl)) (bH (U0 rfl (aD rfl (aB (iB (aB (eN (aD rfl (aD rfl (aB rfl)))))))) (Cz (cs:=[(0,0,[])]) hl hn hp)) rfl)
  | more rs C hC=>
   have hy:=hy (by simp)
   refine cZ (pP (HB (ds:=rs++[.lst ((List.range w).map λ x=>cY (C x))]) rfl) |>.trans (by simp)) (bH (U0 rfl (aD rfl (aB (bF (aD (x:= .lst ((List.range w).map λ x=>cY (C x))) (ajk rfl (k:= -1) rfl ?_) (aD (au rfl (au (x:= .int (y:Int)) (y:= .int 1) (r:= .ok (.int ((y+1:Nat):Int))) rfl rfl rfl) (pZ (α:=D) hy)) (aB rfl))) (adN (C:=C) (T:=T (y+1)) hx hw hC)))) (Cz hl hn hp)) rfl)
   show (match (L2.atI _ _:Option D) with |some d=>R.ok d |none=>R.bad)=_
   have:L2.atI (rs++[D.lst ((List.range w).map λ x=>cY (C x))]) (-1)=some (.lst ((List.range w).map λ x=>cY (C x))):=by
    unfold L2.atI ixN
    rw[if_neg (by decide),if_pos (by simp;exact ak3)]
    simp only[List.length_append,List.length_singleton,Option.bind_some]
    rw[show ((-1:Int)+((rs.length+1:Nat):Int)).toNat=rs.length by exact ak4,List.getElem?_append_right (z0g _)]
    simp
   rw[this]
end
end gZ
namespace gZ
open PySem PySem.Spec L2 Pu
noncomputable def zO (w h:Nat) (T:Nat->Nat->Nat->Int) (M:Nat->Nat->Int):Nat->Nat->List Wy
 |0,_=>[(0,0,[])]
 |k+1,x=>cands w (λ p=>mW p (M (h - 1 - k) p) (zO w h T M k p)) (T (h - 1 - k)) x
noncomputable def qw (w h:Nat) (T:Nat->Nat->Nat->Int) (M:Nat->Nat->Int) (k x:Nat):List Wy:=mW x (M (h - 1 - k) x) (zO w h T M k x)
section
variable {w h a:Nat} {T:Nat->Nat->Nat->Int} {M:Nat->Nat->Int} {ρ:aq}
theorem qX {x:Nat}:zO w h T M 0 x=[(0,0,[])]:=rfl
theorem qY {k x:Nat}:zO w h T M (k+1) x=cands w (qw w h T M k) (T (h - 1 - k)) x:=rfl
theorem qZ {x:Nat} {m:Int} {cs:List Wy}:(mW x m cs).length<=1:=by
 unfold mW
 split
 ·simp
 ·have:=ux (cs:=cs);simpa using this
theorem o8 {x:Nat} {m:Int} {cs:List Wy} {t:Wy} (h:t∈mW x m cs):∃u∈cs,t=sb (f9 m) (pre x u):=by
 unfold mW at h
 split at h
 ·simp at h
 ·rw[List.map_map] at h
  obtain⟨u,hu,rfl⟩:=List.mem_map.mp h
  exact⟨u,Bf u hu,rfl⟩
theorem Jp {α β:Type} {F:α->List β}:∀{l:List α},(∀a∈l,(F a).length<=1)->(l.flatMap F).length<=l.length
 |[],_=>by simp
 | a::l,h=>by
  rw[List.flatMap_cons,List.length_append,List.length_cons]
  have h1:=h a (by simp)
  have h2:=Jp (l:=l) λ b hb=>h b (by simp[hb])
  exact ak5 h1 h2
theorem ahB:∀{k x:Nat},(zO w h T M k x).length < 64
 |0,_=>by simp[qX]
 | k+1,x=>by
  rw[qY]
  unfold cands
  have:=Jp (F:=λ p=>(qw w h T M k p).map (gW (T (h - 1 - k) p (x+1 - p)))) (l:=nr w x) λ p Z=>by rw[List.length_map];exact qZ
  have h2:=adM (w:=w) (x:=x)
  exact ak6 this h2
theorem adO:∀{k x:Nat},∀t∈zO w h T M k x,t.2.2.length=k
 |0,_,t,ht=>by simp[qX] at ht;subst ht;rfl
 | k+1,x,t,ht=>by
  rw[qY] at ht
  obtain⟨p,_,hp⟩:=List.mem_flatMap.mp ht
  obtain⟨u,hu,rfl⟩:=List.mem_map.mp hp
  obtain⟨v,hv,rfl⟩:=o8 hu
  show (((p:Nat):Int)::v.2.2).length=k+1
  rw[List.length_cons,adO v hv]
theorem U4:∀{k x:Nat},((zO w h T M k x).map fl).Nodup
 |0,_=>by simp[qX]
 | k +1,x=>by
  rw[qY]
  unfold cands List.Nodup
  rw[List.pairwise_map,List.pairwise_flatMap]
  refine⟨λ p Z=>?_,?_⟩
  ·have hl:((qw w h T M k p).map (gW (T (h - 1 - k) p (x+1 - p)))).length<=1:=by rw[List.length_map];exact qZ
   match (qw w h T M k p).map (gW (T (h - 1 - k) p (x+1 - p))),hl with
   |[],_=>exact .nil
   |[_],_=>simp
   |_::_::_,hl=>simp at hl
  ·have nd:(nr w x).Nodup:=List.nodup_range'
   refine nd.imp λ {p q} hpq t ht u hu z=>?_
   obtain⟨t',ht',rfl⟩:=List.mem_map.mp ht
   obtain⟨u',hu',rfl⟩:=List.mem_map.mp hu
   obtain⟨t2,_,rfl⟩:=o8 ht'
   obtain⟨u2,_,rfl⟩:=o8 hu'
   have:=UW z
   have h2:((p:Nat):Int)::t2.2.2=((q:Nat):Int)::u2.2.2:=congrArg (λ t:Wy=>t.2.2) this
   have h3:((p:Nat):Int)=((q:Nat):Int):=(List.cons.inj h2).1
   exact hpq (by exact agr h3)
noncomputable def xT (w h:Nat) (T:Nat->Nat->Nat->Int) (M:Nat->Nat->Int) (k:Nat):D:= .lst ((List.range w).map λ x=>cY (qw w h T M k x))
theorem aaq {y:Nat} {rows:List D} {cs:Nat->List Wy} (B:Ben w T y rows cs) (hy:rows≠[]->y+1 < h) (hw:w<=20) (hl:∀x,(cs x).length < 64) (hn:∀x,((cs x).map fl).Nodup) (hp:∀x,∀t∈cs x,t.2.2.length<=100) {e1:Option Ent}:∀{xs:List Nat} {acc:List D} {e7 e8 e9 e10:Option Ent},(∀x∈xs,x < w)->acc.length+xs.length<=1000->
  ∃ z7 z8 z9 CG,forL (eV (eX 2 (bR (aV 7) (bR (aV 8) nilG)))) (inW a (d8 1)) (xs.map λ (x:Nat)=>D.tup [.int (x:Int),.int (M y x)]) [vA (tab w h T),e1,vA (.tup []),some (.obj (.fn a)),some (.lst rows),vA (.int (y:Int)),some (.lst acc),e7,e8,e9,e10] =
   .nx [vA (tab w h T),e1,vA (.tup []),some (.obj (.fn a)),some (.lst rows),vA (.int (y:Int)),some (.lst (acc++xs.map λ x=>cY (mW x (M y x) (cs x)))),z7,z8,z9,CG]
 |[],acc,e7,e8,e9,e10,_,_=>⟨e7,e8,e9,e10,by simp[Dm]⟩
 | x ::xs,acc,e7,e8,e9,e10,hx,hle=>by
  rw[List.length_cons] at hle
  have hxw:=hx x (by simp)
  obtain⟨z7,z8,z9,CG,e⟩:=aaq B hy hw hl hn hp (e1:=e1) (xs:=xs) (acc:=acc++[cY (mW x (M y x) (cs x))]) (e7:=vA (.int (x:Int))) (e8:=vA (.int (M y x))) (e9:=vA (cY (if M y x=1 then [] else (cC (cs x)).map (pre x)))) (e10:=vA (.int (f9 (M y x)))) (λ q hq=>hx q (by simp[hq])) (by simp;exact aaF hle)
  refine⟨z7,z8,z9,CG,iU rfl (aM (afH B hy hxw hw (hl x) (hn x) (hp x)) (afG ?_ (by exact S5 hle) |>.trans ?_)) (e.trans ?_)⟩
  ·split
   ·simp
   ·have:=ux (cs:=cs x);simpa using this
  ·have:mW x (M y x) (cs x)=(if M y x=1 then [] else (cC (cs x)).map (pre x)).map (sb (f9 (M y x))):=by unfold mW;split <;> rfl
   rw[this]
  ·rw[List.map_cons,List.append_assoc];rfl
noncomputable def dn (r:Nat):List D:=(List.range r).map λ (i:Nat)=>D.int ((r:Int) - 1 - (i:Int))
theorem ahC (r:Nat):dn (r+1)=D.int (r:Int)::dn r:=by
 unfold dn
 rw[List.range_succ_eq_map,List.map_cons,List.map_map]
 congr 1
 ·congr 1;exact ak7
 ·refine List.map_congr_left λ i Z=>?_
  show D.int _=D.int _
  congr 1
  simp only[Nat.succ_eq_add_one]
  exact ak8
theorem ajm {k y:Nat} (hk:k < h) (hy:y=h - 1 - k):Ben w T y ((List.range k).map (xT w h T M)) (zO w h T M k):=by
 cases k with
 |zero=>exact .last
 | succ k=>
  rw[List.range_succ,List.map_append]
  have e:zO w h T M (k+1)=cands w (qw w h T M k) (T (y+1)):=by
   funext x
   rw[qY,show y+1=h - 1 - k by exact ak9 hk hy]
  rw[e]
  exact .more _ _ λ p Z=>qZ
theorem ajn {k y:Nat} (hk:k < h) (hy:y=h - 1 - k) (hh:h<=20) (hw:w<=20) {e6 e7 e8 e9 e10:Option Ent}:∃z6 z7 z8 z9 CG,afD a (d8 1) [vA (tab w h T),vA (bJ w h M),vA (.tup []),some (.obj (.fn a)),some (.lst ((List.range k).map (xT w h T M))),vA (.int (y:Int)),e6,e7,e8,e9,e10] =
  .nx [vA (tab w h T),vA (bJ w h M),vA (.tup []),some (.obj (.fn a)),some (.lst ((List.range (k+1)).map (xT w h T M))),vA (.int (y:Int)),z6,z7,z8,z9,CG]:=by
 obtain⟨z7,z8,z9,CG,e⟩:=aaq (h:=h) (a:=a) (M:=M) (e1:=vA (bJ w h M)) (ajm (w:=w) (T:=T) (M:=M) hk hy) (λ hne=>by
  have:k≠0:=λ z=>hne (by rw[z];rfl)
  exact alb hy hk this) hw (λ x=>ahB) (λ x=>U4) (λ x t ht=>by rw[adO t ht];exact ala hk hh) (xs:=List.range w) (acc:=[]) (e7:=e7) (e8:=e8) (e9:=e9) (e10:=e10) (λ x hx=>List.mem_range.mp hx) (by simp;exact aaH hw)
 refine⟨vA (.lst ([]++(List.range w).map λ x=>cY (mW x (M y x) (zO w h T M k x)))),z7,z8,z9,CG,aM (lZ rfl) (aM (nZ (uM (aB (au rfl rfl (sS (by exact ald hy hk)))) rfl) e) ((ahz (ds:=(List.range k).map (xT w h T M)) (es:=[]++(List.range w).map λ x=>cY (mW x (M y x) (zO w h T M k x))) rfl rfl (by rw[List.length_map,List.length_range];exact alc hk hh)).trans ?_))⟩
 rw[List.range_succ,List.map_append]
 have er:((List.range w).map λ x=>cY (mW x (M y x) (zO w h T M k x)))=(List.range w).map λ x=>cY (qw w h T M k x):=by
  refine List.map_congr_left λ x Z=>?_
  unfold qw
  rw[hy]
 simp only[List.nil_append]
 rw[er]
 rfl
theorem U5 (hh:h<=20) (hw:w<=20):∀{r k:Nat} {e5 e6 e7 e8 e9 e10:Option Ent},k+r=h->∃z5 z6 z7 z8 z9 CG,forL (aV 5) (afD a (d8 1)) (dn r) [vA (tab w h T),vA (bJ w h M),vA (.tup []),some (.obj (.fn a)),some (.lst ((List.range k).map (xT w h T M))),e5,e6,e7,e8,e9,e10] =
  .nx [vA (tab w h T),vA (bJ w h M),vA (.tup []),some (.obj (.fn a)),some (.lst ((List.range h).map (xT w h T M))),z5,z6,z7,z8,z9,CG]
 |0,k,e5,e6,e7,e8,e9,e10,hk=>⟨e5,e6,e7,e8,e9,e10,by rw[show k=h by assumption];rfl⟩
 | r+1,k,e5,e6,e7,e8,e9,e10,hk=>by
  refine bc λ zQ=>?_
  obtain⟨y6,y7,y8,y9,y10,e1⟩:=ajn (a:=a) (w:=w) (T:=T) (M:=M) (k:=k) (y:=r) (by exact alf hk) (by exact ale hk) hh hw (e6:=e6) (e7:=e7) (e8:=e8) (e9:=e9) (e10:=e10)
  obtain⟨z5,z6,z7,z8,z9,CG,e2⟩:=U5 hh hw (r:=r) (k:=k+1) (e5:=vA (.int (r:Int))) (e6:=y6) (e7:=y7) (e8:=y8) (e9:=y9) (e10:=y10) (by exact alg hk)
  apply zQ;clear zQ
  rw[ahC]
  exact⟨z5,z6,z7,z8,z9,CG,iU rfl e1 e2⟩
theorem afI (hh:h<=20) (hw:w<=20):uL a (d8 1) [tab w h T,bJ w h M,.tup []]= .ok (.lst ((List.range h).map (xT w h T M)).reverse):=by
 obtain⟨z5,z6,z7,z8,z9,CG,e⟩:=U5 (a:=a) (w:=w) (T:=T) (M:=M) hh hw (r:=h) (k:=0) (e5:=none) (e6:=none) (e7:=none) (e8:=none) (e9:=none) (e10:=none) (by exact Nat.add_comm _ _)
 have er:Um [.int (h:Int)]= .ok (dn h):=by
  show (if _ then _ else _)=_
  rw[if_pos (by exact alh hh)]
  rfl
 refine p7 (aM (lZ rfl) (aM (nZ ?_ e) (bN ?_)))
 ·show ((ao (aF cM (ao (λ ρ=>ak ρ 1) (λ Z=> .ok []))) (λ Z=> .ok [])) _).bind Um=_
  rw[aB (bx (aB rfl) qU)]
  exact er
 ·show Ti _ _=_
  unfold Ti
  rfl
end
end gZ
namespace gZ
open PySem PySem.Spec L2 Pu
section
variable {w h:Nat} {T:Nat->Nat->Nat->Int} {M:Nat->Nat->Int} {f:Nat->Nat->Int} {m:Str} {ρ:aq}
theorem ahD (hh:h<=20) (hw:w<=20):oF [tab w h T,bJ w h M,.int 1]= .ok (.lst ((List.range h).map (xT w h T M)).reverse):=by
 refine p7 ?_
 show (match allOf (λ x=>uL x (d8 1) [tab w h T,bJ w h M,.tup []]) with | .ok r=>So.rt r |_=> .bad)=_
 rw[afx λ a=>afI hh hw]
theorem adP {F:Nat->D}:((List.range h).map F).reverse=(List.range h).map λ y=>F (h - 1 - y):=by
 apply List.ext_getElem?
 intro i
 by_cases hi:i < h
 ·rw[List.getElem?_reverse (by simpa using hi),List.getElem?_map,List.getElem?_map,List.getElem?_range hi,List.length_map,List.length_range,List.getElem?_range (by exact ali hi)]
  rfl
 ·rw[List.getElem?_eq_none (by simp;exact Nat.not_lt.mp hi),List.getElem?_eq_none (by simp;exact Nat.not_lt.mp hi)]
noncomputable def Mk (w h:Nat) (M:Nat->Nat->Int):Prop:=∀y x,0<=M y x/\M y x<=2
theorem ahE {i:Int}:gw [.int i]= .ok (.bl true):=by rfl
theorem ajo {i j:Int} (h:i<=j):HJ (.int i) (.int j)= .ok (.bl true):=by
 show R.ok (D.bl (decide _))=_
 rw[decide_eq_true h]
theorem abf {i:Int} (h:0<=i/\i<=2):pI [.int i]= .ok (.bl true):=
 cH (bN (zx (bF (aB rfl) ahE) (T6 rfl rfl (ajo h.1) rfl (ajo h.2))))
theorem agS {α:Type} {l:List α}:Aj [.lst (l.map λ Z=> .bl true)]= .ok (.bl true):=Hq
theorem Kr {g:Nat->Int} (hw:w<=20) (hg:∀x,0<=g x/\g x<=2):jh [row w g,.int (w:Int)]= .ok (.bl true):=by
 refine cH (bN (zx rfl (zx (au (bx (aB rfl) qT) rfl (by rw[nF,decide_eq_true rfl])) (bx (aB (cQ (c:=λ x=>D.int (g x)) (h:=λ Z=>D.bl true) (l:=List.range w) (jf rfl) (by rw[List.length_range];exact dY hw) λ x hx=>?_)) agS))))
 exact c7 rfl (bF (aB rfl) (abf (hg x)))
theorem qI {i:Int}:jW (.int i) (.int i)= .ok (.bl false):=by rw[agR,decide_eq_true rfl];rfl
theorem Yd (o:Ok w h f) (hM:Mk w h M):nu [bJ w h M,bJ w h f]= .ok (.bl true):=by
 have ju:=o.h2
 refine cH (aM (cZ (sO (pP (b:=true) (bw rfl)) (bw (au (bx (aB rfl) qU) (bx (aB rfl) qU) qI))) rfl) (bN (bx (aB (cQ (c:=λ y=>row w (M y)) (h:=λ Z=>D.bl true) (l:=List.range h) (jf rfl) (by rw[List.length_range];exact dY ju) λ y hy=>?_)) agS)))
 exact c7 rfl (bF (aD rfl (aB (len0 o rfl))) (Kr o.w2 (hM y)))
theorem mul_one {d:D} {k:Nat} (h1:1<=k) (ju:k<=20):vd (.tup [d]) (.int (k:Int))= .ok (.tup ((List.range k).map λ Z=>d)):=by
 rw[vd,if_pos ⟨by simp,by exact Int.ofNat_lt.mpr h1,by omega,by simp;exact dY ju⟩]
 congr 2
 rw[show ((k:Nat):Int).toNat=k by exact rfl]
 clear h1 ju
 induction k with
 |zero=>rfl
 |succ k ih=>rw[List.replicate_succ,List.flatten_cons,ih,List.range_succ_eq_map,List.map_cons,List.map_map];rfl
theorem Ql (o:Ok w h f) (hM:Mk w h M):j7 [bJ w h M,bJ w h f]= .ok (bJ w h M):=
 cH (aM (cZ (bw (b:=false) (au rfl rfl rfl)) rfl) (aM (cZ (pP (b:=true) (bw (bF (aD rfl (aB rfl)) (Yd o hM)))) rfl) (bN rfl)))
theorem Jq (hm:m= "worth"\/m= "joins") (o:Ok w h f):pH [bJ w h f,.str m]= .ok (tab w h (tbl m w h f)):=by
 rcases hm with rfl |rfl
 ·exact ahw o
 ·exact ahx o
end
end gZ
namespace gZ
open PySem PySem.Spec L2 Pu
noncomputable abbrev lt (a b:Wy):Bool:=fV (fl a) (fl b)
section
variable {w h:Nat} {T:Nat->Nat->Nat->Int} {M:Nat->Nat->Int}
theorem adQ {c:Int} {a b:Wy}:lt (gW c a) (gW c b)=lt a b:=by
 obtain⟨a1,a2,a3⟩:=a;obtain⟨b1,b2,b3⟩:=b
 simp only[lt,fl,gW,fV]
 by_cases e1:a1=b1
 ·rw[if_pos e1,if_pos e1]
  by_cases e:a2=b2
  ·rw[if_pos (by exact amd e),if_pos e]
  ·rw[if_neg (by exact ame e),if_neg e];exact decide_eq_decide.mpr (by omega)
 ·rw[if_neg e1,if_neg e1]
theorem am8 {c:Int} {a b:Wy}:lt (sb c a) (sb c b)=lt a b:=by
 obtain⟨a1,a2,a3⟩:=a;obtain⟨b1,b2,b3⟩:=b
 simp only[lt,fl,sb,fV]
 by_cases e:a1=b1
 ·rw[if_pos (by exact amf e),if_pos e]
 ·rw[if_neg (by exact amg e),if_neg e];exact decide_eq_decide.mpr (by omega)
theorem ajp {x:Nat} {a b:Wy}:lt (pre x a) (pre x b)=lt a b:=by
 obtain⟨a1,a2,a3⟩:=a;obtain⟨b1,b2,b3⟩:=b
 simp only[lt,fl,pre,fV,if_true]
theorem U6 {a b c:Wy} (h1:lt b a=false) (h2:lt c b=false):lt c a=false:=by
 cases z:lt c a with
 |false=>rfl
 | true=>
  by_cases e:fl b=fl a
  ·have h2:fV (fl c) (fl b)=false:=h2
   rw[e] at h2;exact h2.symm.trans z |>.symm
  ·have:=mR z (zK e h1)
   exact (this.symm.trans h2)
theorem ajq {a b:Wy} (h1:lt a b=false) (h2:lt b a=false):a=b:=by
 by_cases e:fl a=fl b
 ·exact UW e
 ·have h3:fV (fl b) (fl a)=true:=zK e h1
  exact absurd (h3.symm.trans h2) (by decide)
theorem p8 {cs:List Wy} (hn:(cs.map fl).Nodup) (hne:cs≠[]):∃v,cC cs=[v]/\v∈cs/\∀u∈cs,lt u v=false:=by
 have hr:=DN hn
 cases es:mC (cs.map fl) with
 | nil=>
  have:=(kW (cs.map fl)).length_eq
  rw[es,List.length_map] at this
  exact absurd (List.length_eq_zero_iff.mp this.symm) hne
 | cons l ls=>
  have ef:cC cs=[un l]:=by unfold cC;rw[es];rfl
  rw[es] at hr
  obtain⟨hr1,_⟩:=List.pairwise_cons.mp hr
  have hl:l∈mC (cs.map fl):=by rw[es];exact List.mem_cons_self
  have hul:fl (un l)=l:=U3 l hl
  refine⟨un l,ef,Bf _ (by rw[ef];exact List.mem_cons_self),λ u hu=>?_⟩
  have hm:fl u∈mC (cs.map fl):=(kW _).mem_iff.mpr (List.mem_map_of_mem hu)
  rw[es] at hm
  show fV (fl u) (fl (un l))=false
  rw[hul]
  rcases List.mem_cons.mp hm with z |z
  ·rw[z];exact pD _
  ·cases q:fV (fl u) l with
   |false=>rfl
   |true=>have:=mR q (hr1 _ z);rw[pD] at this;injection this
noncomputable def vl (T:Nat->Nat->Nat->Int) (M:Nat->Nat->Int):Nat->List Nat->Wy
 |_,[]=>(0,0,[])
 |y,[x]=>sb (f9 (M y x)) (pre x (0,0,[]))
 |y,x::p::l=>sb (f9 (M y x)) (pre x (gW (T (y+1) p (x+1 - p)) (vl T M (y+1) (p::l))))
noncomputable def Pa (w:Nat) (M:Nat->Nat->Int):Nat->List Nat->Prop
 |_,[]=>True
 |y,[x]=>x < w/\M y x≠1
 |y,x::p::l=>x < w/\M y x≠1/\p<=x+1/\x<=p+1/\Pa w M (y+1) (p::l)
theorem Pa.lt {y x:Nat} {l:List Nat} (h:Pa w M y (x::l)):x < w:=by
 cases l with
 |nil=>exact h.1
 |cons p l=>exact h.1
theorem Pa.ne {y x:Nat} {l:List Nat} (h:Pa w M y (x::l)):M y x≠1:=by
 cases l with
 |nil=>exact h.2
 |cons p l=>exact h.2.1
theorem aar {x:Nat} {m:Int} {cs:List Wy} {t:Wy} (h:t∈mW x m cs):m≠1:=λ e=>by
 unfold mW at h
 rw[if_pos e] at h
 cases h
theorem adR {h k:Nat} (hk:k+1 < h):h - 1 - k=h - 1 - (k+1)+1:=by exact alj hk
theorem Qm:∀{k x:Nat} {t:Wy},x < w->k < h->t∈qw w h T M k x->∃l,l.length=k/\Pa w M (h - 1 - k) (x::l)/\t=vl T M (h - 1 - k) (x::l)
 | 0,x,t,hx,hk,ht=>by
  refine bc λ zQ=>?_
  obtain⟨u,hu,e⟩:=o8 ht
  apply zQ;clear zQ
  have hu:u=(0,0,[]):=by simpa[qX] using hu
  subst hu
  exact⟨[],rfl,⟨hx,aar ht⟩,e⟩
 | k+1,x,t,hx,hk,ht=>by
  refine bc λ zQ=>?_
  obtain⟨u,hu,e⟩:=o8 ht
  apply zQ;clear zQ
  have hm:=aar ht
  rw[qY] at hu
  refine bc λ zQ=>?_
  obtain⟨p,hp,hu⟩:=List.mem_flatMap.mp hu
  obtain⟨v,hv,rfl⟩:=List.mem_map.mp hu
  obtain⟨h1,h2,h3⟩:=(Kq hx).mp hp
  obtain⟨l,hl,hP,hvl⟩:=Qm h1 (by exact z0e hk) hv
  apply zQ;clear zQ
  have ey:h - 1 - k=h - 1 - (k+1)+1:=adR hk
  rw[ey] at hP hvl e
  exact⟨p::l,by rw[List.length_cons,hl],⟨hx,hm,h2,h3,hP⟩,by rw[e,hvl];rfl⟩
theorem Qn {x:Nat} {m:Int} {cs:List Wy} {v:Wy} (hm:m≠1) (e:cC cs=[v]):mW x m cs=[sb (f9 m) (pre x v)]:=by
 unfold mW
 rw[if_neg hm,e];rfl
theorem Qo:∀{k x:Nat} {l:List Nat},l.length=k->k < h->Pa w M (h - 1 - k) (x::l)->∃t∈qw w h T M k x,lt (vl T M (h - 1 - k) (x::l)) t=false
 | 0,x,l,hl,hk,hP=>by
  cases List.length_eq_zero_iff.mp hl
  obtain⟨v,ev,hv,_⟩:=p8 (U4 (w:=w) (h:=h) (T:=T) (M:=M) (k:=0) (x:=x)) (by simp[qX])
  have hv:v=(0,0,[]):=by simpa[qX] using hv
  subst hv
  exact⟨_,by unfold qw;rw[Qn hP.ne ev];exact List.mem_cons_self,pD _⟩
 | k + 1,x,l,hl,hk,hP=>by
  cases l with
  |nil=>injection hl
  | cons p l=>
   have ey:h - 1 - k=h - 1 - (k+1)+1:=adR hk
   obtain⟨hx,hm,h2,h3,hP'⟩:=hP
   have hl:l.length=k:=by simpa using hl
   rw[<-ey] at hP'
   obtain⟨t,ht,hlt⟩:=Qo hl (by exact z0e hk) hP'
   have hu:gW (T (h - 1 - k) p (x+1 - p)) t∈zO w h T M (k+1) x:=by
    rw[qY]
    exact List.mem_flatMap.mpr ⟨p,(Kq hx).mpr ⟨hP'.lt,h2,h3⟩,List.mem_map_of_mem ht⟩
   obtain⟨v,ev,hv,hle⟩:=p8 (U4 (w:=w) (h:=h) (T:=T) (M:=M) (k:=k+1) (x:=x)) (List.ne_nil_of_mem hu)
   refine⟨_,by unfold qw;rw[Qn hm ev];exact List.mem_cons_self,?_⟩
   show lt (sb _ (pre x (gW (T (h - 1 - (k+1)+1) p (x+1 - p)) (vl T M (h - 1 - (k+1)+1) (p::l))))) _=false
   rw[am8,ajp,<-ey]
   exact U6 (hle _ hu) (by rw[adQ];exact hlt)
noncomputable def topC (w h:Nat) (T:Nat->Nat->Nat->Int) (M:Nat->Nat->Int):List Wy:=(List.range w).flatMap λ x=>(qw w h T M (h - 1) x).map (gW (T 0 x 1))
theorem afJ:(topC w h T M).length<=w:=by
 have:=Jp (F:=λ x=>(qw w h T M (h - 1) x).map (gW (T 0 x 1))) (l:=List.range w) λ p Z=>by rw[List.length_map];exact qZ
 rw[List.length_range] at this;exact this
theorem Nq:((topC w h T M).map fl).Nodup:=by
 unfold topC List.Nodup
 rw[List.pairwise_map,List.pairwise_flatMap]
 refine⟨λ p Z=>?_,?_⟩
 ·have hl:((qw w h T M (h - 1) p).map (gW (T 0 p 1))).length<=1:=by rw[List.length_map];exact qZ
  match (qw w h T M (h - 1) p).map (gW (T 0 p 1)),hl with
  |[],_=>exact .nil
  |[_],_=>simp
  |_::_::_,hl=>simp at hl
 ·have nd:(List.range w).Nodup:=List.nodup_range
  refine nd.imp λ {p q} hpq t ht u hu z=>?_
  obtain⟨t',ht',rfl⟩:=List.mem_map.mp ht
  obtain⟨u',hu',rfl⟩:=List.mem_map.mp hu
  obtain⟨t2,_,rfl⟩:=o8 ht'
  obtain⟨u2,_,rfl⟩:=o8 hu'
  have:=UW z
  have h2:((p:Nat):Int)::t2.2.2=((q:Nat):Int)::u2.2.2:=congrArg (λ t:Wy=>t.2.2) this
  have h3:((p:Nat):Int)=((q:Nat):Int):=(List.cons.inj h2).1
  exact hpq (by exact agr h3)
noncomputable def gn (M:Nat->Nat->Int) (h:Nat) (s:Nat->Nat):Int:=((List.range h).map λ y=>f9 (M y (s y))).sum
noncomputable def wS (T:Nat->Nat->Nat->Int) (M:Nat->Nat->Int) (h:Nat) (s:Nat->Nat):Wy:=(-gn M h s,cost h T s,(List.range h).map λ y=>((s y:Nat):Int))
structure qb (w h:Nat) (M:Nat->Nat->Int) (s:Nat->Nat):Prop where
 sm:vH w h s
 ne:∀y < h,M y (s y)≠1
theorem ajr {s:Nat->Nat}:∀{k y:Nat},vl T M y ((List.range' y (k+1)).map s)=(-((List.range' y (k+1)).map λ y=>f9 (M y (s y))).sum,((List.range' (y+1) k).map λ y=>fare T s y).sum,(List.range' y (k+1)).map λ y=>((s y:Nat):Int))
 | 0,y=>by
  show (0 - f9 (M y (s y)),(0:Int),[((s y:Nat):Int)])=(-(f9 (M y (s y))+0),0,[((s y:Nat):Int)])
  rw[show 0 - f9 (M y (s y))= -(f9 (M y (s y))+0) by exact alk]
 | k +1,y=>by
  have ih:=ajr (s:=s) (k:=k) (y:=y+1)
  rw[List.range'_succ (s:=y),List.map_cons,List.map_cons,List.map_cons,List.sum_cons]
  rw[List.range'_succ (s:=y+1),List.map_cons,List.map_cons,List.map_cons,List.sum_cons] at ih |-
  show sb _ (pre _ (gW _ (vl T M (y+1) _)))=_
  rw[ih]
  simp only[sb,pre,gW]
  refine Prod.ext ?_ (Prod.ext ?_ rfl)
  ·show -_ - f9 _= -_;exact alm
  ·rw[List.map_cons,List.sum_cons]
   show _+T (y+1) (s (y+1)) (s y+1 - s (y+1))=T (y+1) (s (y+1)) (s y+1 - s (y+1))+_
   rw[Int.add_comm]
theorem ajs {s:Nat->Nat} (h1:1<=h):gW (T 0 (s 0) 1) (vl T M 0 ((List.range h).map s))=wS T M h s:=by
 obtain⟨k,rfl⟩:∃k,h=k+1:=⟨h - 1,by exact JT h1⟩
 rw[List.range_eq_range',ajr]
 simp only[gW,wS,gn,cost]
 refine Prod.ext ?_ (Prod.ext ?_ ?_)
 ·rw[List.range_eq_range']
 ·show ((List.range' (0+1) k).map λ y=>fare T s y).sum+T 0 (s 0) 1=T 0 (s 0) 1+((List.range (k+1 - 1)).map λ y=>fare T s (y+1)).sum
  rw[Int.add_comm,Nat.add_sub_cancel,List.range'_eq_map_range,List.map_map]
  congr 3
  funext i
  show fare T s (0+1+i)=fare T s (i+1)
  rw[show 0+1+i=i+1 by exact Nat.add_comm _ _]
 ·rw[List.range_eq_range']
theorem ajt {s : Nat -> Nat} : ∀ {k y : Nat},Pa w M y ((List.range' y (k+1)).map s)↔(∀z,y<=z->z<=y+k->s z < w/\M z (s z)≠1)/\∀z,y<=z->z < y+k->s (z+1)<=s z+1/\s z<=s (z+1)+1
 | 0, y => ⟨λ h => ⟨λ z h1 h2 => by have:z=y:=by exact aln h2 h1
                                    subst this;exact h,λ z h1 h2=>by exact alo h2 h1⟩,λ h=>h.1 y (z0g _) (z0g _)⟩
 | k + 1,y=>by
  have ih:=ajt (s:=s) (k:=k) (y:=y+1)
  rw[List.range'_succ (s:=y),List.map_cons]
  rw[List.range'_succ (s:=y+1),List.map_cons] at ih |-
  constructor
  ·rintro⟨h1,h2,h3,h4,h5⟩
   obtain⟨q1,q2⟩:=ih.mp h5
   refine⟨λ z z1 z2=>?_,λ z z1 z2=>?_⟩
   ·by_cases e:z=y
    ·subst e;exact⟨h1,h2⟩
    ·exact q1 z (by exact ags z1 e) (by exact alp z2)
   ·by_cases e:z=y
    ·subst e;exact⟨h3,h4⟩
    ·exact q2 z (by exact ags z1 e) (by exact aiy z2)
  ·rintro⟨q1,q2⟩
   have a:=q1 y (z0g _) (by exact Nat.le_add_right _ _)
   have b:=q2 y (z0g _) (by exact alq)
   exact⟨a.1,a.2,b.1,b.2,ih.mpr ⟨λ z z1 z2=>q1 z (by exact z0e z1) (by exact ae8 z2),λ z z1 z2=>q2 z (by exact z0e z1) (by exact alr z2)⟩⟩
theorem adS {s:Nat->Nat} (h1:1<=h):Pa w M 0 ((List.range h).map s)↔qb w h M s:=by
 obtain⟨k,rfl⟩:∃k,h=k+1:=⟨h - 1,by exact JT h1⟩
 rw[List.range_eq_range',ajt]
 constructor
 ·rintro⟨a,b⟩
  exact⟨⟨λ y hy=>(a y (by exact Nat.zero_le _) (by exact agt hy)).1,λ y hy=>b y (by exact Nat.zero_le _) (by exact als hy)⟩,λ y hy=>(a y (by exact Nat.zero_le _) (by exact agt hy)).2⟩
 ·rintro⟨⟨a,b⟩,c⟩
  exact⟨λ z Z z2=>⟨a z (by exact agu z2),c z (by exact agu z2)⟩,λ z Z z2=>b z (by exact alu z2)⟩
theorem ahF (l:List Nat):∃s:Nat->Nat,l=(List.range l.length).map s:=
 ⟨λ y=>l.getD y 0,by
  apply List.ext_getElem?
  intro i
  rw[List.getElem?_map]
  by_cases hi:i < l.length
  ·rw[List.getElem?_range hi];simp[hi]
  ·rw[List.getElem?_eq_none (by exact Nat.not_lt.mp hi),List.getElem?_eq_none (by simp;exact Nat.not_lt.mp hi)];rfl⟩
theorem aas (h1:1<=h) {t:Wy} (ht:t∈topC w h T M):∃s,qb w h M s/\t=wS T M h s:=by
 obtain⟨x,hx,hu⟩:=List.mem_flatMap.mp ht
 obtain⟨u,hv,rfl⟩:=List.mem_map.mp hu
 obtain⟨l,hl,hP,rfl⟩:=Qm (k:=h - 1) (h:=h) (List.mem_range.mp hx) (by exact aiA h1) hv
 rw[show h - 1 - (h - 1)=0 by exact alv] at hP |-
 obtain⟨s,hs⟩:=ahF (x::l)
 have hlen:(x::l).length=h:=by rw[List.length_cons,hl];exact Nat.sub_add_cancel h1
 rw[hlen] at hs
 have h0:s 0=x:=by
  obtain⟨k,rfl⟩:∃k,h=k+1:=⟨h - 1,by exact JT h1⟩
  rw[List.range_succ_eq_map,List.map_cons] at hs
  exact (List.cons.inj hs).1.symm
 rw[hs] at hP |-
 refine⟨s,(adS h1).mp hP,?_⟩
 rw[<-ajs h1,h0]
theorem adT (h1:1<=h) {s:Nat->Nat} (q:qb w h M s):∃t∈topC w h T M,lt (wS T M h s) t=false:=by
 have hP:=(adS h1).mpr q
 rw[<-ajs h1]
 obtain⟨k,rfl⟩:∃k,h=k+1:=⟨h - 1,by exact JT h1⟩
 have e:(List.range (k+1)).map s=s 0::(List.range k).map λ y=>s (y+1):=by
  rw[List.range_succ_eq_map,List.map_cons,List.map_map];rfl
 rw[e] at hP |-
 obtain⟨t,ht,hl⟩:=Qo (w:=w) (h:=k+1) (T:=T) (M:=M) (k:=k+1 - 1) (x:=s 0) (l:=(List.range k).map λ y=>s (y+1)) (by simp) (by exact z0g _) (by rw[show k+1 - 1 - (k+1 - 1)=0 by exact agD];exact hP)
 rw[show k+1 - 1 - (k+1 - 1)=0 by exact agD] at hl
 exact⟨_,List.mem_flatMap.mpr ⟨s 0,List.mem_range.mpr (q.sm.lt 0 (by assumption)),List.mem_map_of_mem ht⟩,by rw[adQ];exact hl⟩
noncomputable def Bst (w h:Nat) (T:Nat->Nat->Nat->Int) (M:Nat->Nat->Int) (s:Nat->Nat):Prop:=qb w h M s/\∀s',qb w h M s'->lt (wS T M h s') (wS T M h s)=false
theorem least (h1:1<=h):(cC (topC w h T M)=[]/\∀s,¬qb w h M s)\/∃s,cC (topC w h T M)=[wS T M h s]/\Bst w h T M s:=by
 by_cases hne:topC w h T M=[]
 ·left
  refine⟨by rw[hne];rfl,λ s q=>?_⟩
  obtain⟨t,ht,_⟩:=adT (T:=T) h1 q
  rw[hne] at ht;cases ht
 ·right
  obtain⟨v,ev,hv,hle⟩:=p8 Nq hne
  obtain⟨s,q,rfl⟩:=aas h1 hv
  refine⟨s,ev,q,λ s' q'=>?_⟩
  obtain⟨t,ht,hl⟩:=adT (T:=T) h1 q'
  exact U6 (hle t ht) hl
end
end gZ
namespace gZ
open PySem PySem.Spec L2 Pu
section
variable {w h:Nat} {T:Nat->Nat->Nat->Int} {M:Nat->Nat->Int} {f:Nat->Nat->Int} {m:Str} {ρ:aq}
noncomputable def aju:aq->So:=(bA (bV (aF (bh gU 3) (ao (bin (λ ρ=>ak ρ 0) (λ Z=> .ok (.int 0)) bZ) (ao (λ ρ=>ak ρ 3) (ao (λ ρ=>ak ρ 3) (λ Z=> .ok []))))) (aV 5)) (Ji 2 (cj 3 [5] (fB (λ ρ=>ak ρ 4)) (eV (eX 3 (bR (aV 0) (bR (aV 1) (bR (aV 2) nilG))))) (λ Z=> .ok true) (dh (ao (λ ρ=>ak ρ 0) (ao (bin (λ ρ=>ak ρ 1) (λ ρ=>ak ρ 3) cF) (ao (λ ρ=>ak ρ 2) (λ Z=> .ok []))))))))
theorem ahG (h1:1<=h) {C:Nat->List Wy} {x:Nat} (hx:x < w) (hC:(C x).length<=1) {e1 e5:Option Ent} {acc:List D} (hl:acc.length<=1000):
  aju [vA (tab w h T),e1,some (.lst acc),vA (.int (x:Int)),vA (cY (C x)),e5]= .nx [vA (tab w h T),e1,some (.lst (acc++((C x).map (gW (T 0 x 1))).map dZ)),vA (.int (x:Int)),vA (cY (C x)),vA (.int (T 0 x 1))]:=by
 have e0:gU [.lst ((List.range w).map λ x=>gA (T 0 x)),.int (x:Int),.int (x:Int)]= .ok (.int (T 0 x 1)):=by
  have:=Kp (T:=T 0 x) (p:=λ x=>gA (T 0 x)) (a:=x) (b:=x) hx (by exact Nat.le_add_right _ _) (by exact Nat.le_add_right _ _) rfl
  rwa [show x+1 - x=1 by exact agv] at this
 refine aM (bH (bF (aD (au rfl rfl (pZ (α:=D) (x:=0) h1)) (aD rfl (aB rfl))) e0) rfl) ?_
 refine (aao (ds:=acc) rfl (cQ (c:=dZ) (h:=λ t=>dZ (gW (T 0 x 1) t)) (l:=C x) (qJ rfl) (by exact SX hC) λ t ht=>?_) (by simp;exact agp hl hC)).trans ?_
 ·exact c7 rfl (eN (aD rfl (aD (x:= .int (t.2.1+T 0 x 1)) (au rfl rfl rfl) (aB rfl))))
 ·rw[List.map_map];rfl
theorem U7 (h1:1<=h) {C:Nat->List Wy} (hC:∀p,(C p).length<=1) {e1:Option Ent}:∀{ps:List Nat} {acc:List D} {e3 e4 e5:Option Ent},(∀p∈ps,p < w)->acc.length+ps.length<=1000->
  ∃ z3 z4 z5,forL (eV (eX 2 (bR (aV 3) (bR (aV 4) nilG)))) aju (ps.map λ (p:Nat)=>D.tup [.int (p:Int),cY (C p)]) [vA (tab w h T),e1,some (.lst acc),e3,e4,e5] =
   .nx [vA (tab w h T),e1,some (.lst (acc++(ps.flatMap λ p=>(C p).map (gW (T 0 p 1))).map dZ)),z3,z4,z5]
 |[],acc,e3,e4,e5,_,_=>⟨e3,e4,e5,by simp[Dm]⟩
 | p::ps,acc,e3,e4,e5,hp,hl=>by
  rw[List.length_cons] at hl
  have hpw:=hp p (by simp)
  have hc:=hC p
  obtain⟨z3,z4,z5,e⟩:=U7 h1 hC (e1:=e1) (ps:=ps) (acc:=acc++((C p).map (gW (T 0 p 1))).map dZ) (e3:=vA (.int (p:Int))) (e4:=vA (cY (C p))) (e5:=vA (.int (T 0 p 1))) (λ q hq=>hp q (by simp[hq])) (by simp;exact agq hl hc)
  refine⟨z3,z4,z5,iU rfl (ahG h1 hpw hc (by exact S5 hl)) (e.trans ?_)⟩
  rw[List.flatMap_cons,List.map_append,List.append_assoc]
theorem Ye (h1:1<=h) (hw:w<=20):nA [tab w h T,.lst ((List.range h).map λ y=>xT w h T M (h - 1 - y))]= .ok (.lst ((topC w h T M).map dZ)):=by
 obtain⟨z3,z4,z5,e⟩:=U7 (T:=T) h1 (C:=qw w h T M (h - 1)) (λ p=>qZ) (e1:=vA (.lst ((List.range h).map λ y=>xT w h T M (h - 1 - y)))) (ps:=List.range w) (acc:=[]) (e3:=none) (e4:=none) (e5:=none) (λ p hp=>List.mem_range.mp hp) (by simp;exact aaH hw)
 exact cH (aM (lZ rfl) (aM (nZ (uM (p:=λ p=>cY (qw w h T M (h - 1) p)) (aB (au rfl rfl (pZ (α:=D) (x:=0) h1))) rfl) e) (bN rfl)))
theorem abg {cs:List Wy} (hl:cs.length < 64) (hn:(cs.map fl).Nodup) {u:aq->R D} {v:aq->R (Option Int)} (e:u ρ= .ok (.lst (cs.map dZ))) (e0:v ρ= .ok (some 1)):qK (aF vg (ao u (λ Z=> .ok []))) (λ Z=> .ok none) v ρ= .ok (.lst ((cC cs).map dZ)):=by
 have e1:vg [.lst (cs.map dZ)]= .ok (.lst ((mC (cs.map fl)).map jU)):=by
  rw[Us,Bd]
  show (if _ then _ else _)=_
  rw[if_pos ⟨by simpa using hl,hn⟩]
 have e2:lg ((mC (cs.map fl)).map jU) none (some 1)=(cC cs).map dZ:=by
  have e3:∀{n d:Nat},HT.sIx n d (some 1)=min 1 n:=λ {n d}=>by
   show (if (1:Int) < 0 then ((1:Int)+(n:Int)).toNat else min (1:Int).toNat n)=min 1 n
   rw[if_neg (by decide)];rfl
  rw[lg,e3,Eh,Nat.sub_zero,List.drop_zero,<-List.map_take]
  have e4:∀l:List (List Int),l.take (min 1 (l.map jU).length)=l.take 1:=λ l=>by cases l <;> simp
  rw[e4]
  unfold cC
  rw[List.map_map]
  refine List.map_congr_left λ l hl=>?_
  show jU l=dZ (un l)
  rw[Bc,U3 l (List.mem_of_mem_take hl)]
 unfold qK
 rw[bx (aB e) e1,e0]
 show R.ok (D.lst (lg _ none (some 1)))=_
 rw[e2]
theorem Nr (h1:1<=h) (hh:h<=20) (hw:w<=20):lK [tab w h T,bJ w h M,.int 1]= .ok (.lst ((cC (topC w h T M)).map dZ)):=by
 have hl:=afJ (w:=w) (h:=h) (T:=T) (M:=M)
 exact p7 (bN (abg (by exact alw hl hw) Nq (bF (aD rfl (aB (bF (aD rfl (aD rfl (aB rfl))) ((ahD hh hw).trans (by rw[adP]))))) (Ye h1 hw)) rfl))
noncomputable def lwD:List Wy->D
 |[]=> .non
 |t::_=> .tup [.int t.2.1,.tup (t.2.2.map .int)]
noncomputable def lsD:List Wy->D
 |[]=> .non
 |t::_=> .tup (t.2.2.map .int)
theorem U8 (h1:1<=h) (hh:h<=20) (hw:w<=20):lY [tab w h T,bJ w h M]= .ok (lwD (cC (topC w h T M))):=by
 have e:=Nr (T:=T) (M:=M) h1 hh hw
 have hl:=ux (cs:=topC w h T M)
 match cC (topC w h T M),e,hl with
 |[],e,_=>exact p7 (aM (bH (bF (aD rfl (aD rfl (aB rfl))) e) rfl) (jX (eO (pP (HB (ds:=[]) rfl)) (bN rfl))))
 |[t],e,_=>exact p7 (aM (bH (bF (aD rfl (aD rfl (aB rfl))) e) rfl) (aM (cZ (pP (HB (ds:=[dZ t]) rfl)) rfl) (aM (bH (d:=dZ t) (au (y:= .int 0) rfl rfl (T7 (i:=0) rfl)) rfl) (bN (eN (aD rfl (aB rfl)))))))
 |_::_::_,_,hl=>simp at hl
theorem adU {α:Type} {k:D->R (Option D)} {c:α->D} {o:α->Option D}:∀{l:List α},(∀a∈l,k (c a)= .ok (o a))->mq k (l.map c)= .ok (l.filterMap o)
 |[],_=>rfl
 | a::l,h=>by
  rw[List.map_cons,ac7,h a (by simp),J1,R.bL,adU λ b hb=>h b (by simp[hb]),R.bL]
  cases e:o a with
  |none=>rw[List.filterMap_cons_none e];rfl
  |some d=>rw[List.filterMap_cons_some e];rfl
theorem Ks {α:Type} {n:Nat} {caps:List Nat} {fi:aq->R (List D)} {gt:D->aq->R aq} {ft:aq->R Bool} {fe:aq->R D} {ρ:aq} {c:α->D} {o:α->Option D} {l:List α} (e1:fi ρ= .ok (l.map c)) (hl:l.length<=1000000)
  (e2:∀a∈l,qz gt ft fe (G8 n caps ρ) (c a)= .ok (o a)):cj n caps fi gt ft fe ρ= .ok (.lst (l.filterMap o)):=by
 rw[cj,e1,R.bL,adU e2,R.bL,cap,if_pos (z0b (List.length_filterMap_le _ _) hl)]
theorem HD {ρ ρ1:aq} {gt:D->aq->R aq} {ft:aq->R Bool} {fe:aq->R D} {x d:D} {b:Bool} (e1:gt x ρ= .ok ρ1) (e2:ft ρ1= .ok b) (e3:fe ρ1= .ok d):qz gt ft fe ρ x= .ok (if b=true then some d else none):=by
 rw[qz,e1,R.bL,e2,R.bL]
 cases b with
 |true=>rw[if_pos rfl,if_pos rfl,e3];rfl
 |false=>rw[if_neg (by decide),if_neg (by decide)]
theorem ajv {u:aq->R D} {i:Int} (e:u ρ= .ok (.int i)):tu u ρ= .ok (.int (-i)):=by rw[tu,e];rfl
noncomputable def cnt (M:Nat->Nat->Int) (h:Nat) (s:Nat->Nat) (k:Int):Int:=((List.range h).map λ y=>if M y (s y)=k then (1:Int) else 0).sum
theorem U9 {α:Type} {p:α->Bool} {g:α->D}:∀{l:List α},((l.filterMap λ a=>if p a=true then some (g a) else none).length:Int)=(l.map λ a=>if p a=true then (1:Int) else 0).sum
 |[]=>rfl
 | a::l=>by
  rw[List.map_cons,List.sum_cons]
  cases e:p a with
  |true=>rw[List.filterMap_cons_some (b:=g a) (by simp[e]),List.length_cons,if_pos rfl,<-U9 (g:=g)];exact alx
  |false=>rw[List.filterMap_cons_none (by simp[e]),if_neg (by decide),<-U9 (g:=g)];exact aly
theorem Va {s:Nat->Nat} (hh:h<=20) (q:vH w h s) {k:Int}:gR [bJ w h M,sm h s,.int k]= .ok (.int (cnt M h s k)):=by
 have e:cnt M h s k=(((List.range h).filterMap λ y=>if decide (M y (s y)=k)=true then some (D.int ((s y:Nat):Int)) else none).length:Int):=by
  rw[U9]
  unfold cnt
  simp only[decide_eq_true_eq]
 rw[e]
 refine cH (bN (bx (aB (x:= .lst ((List.range h).filterMap λ y=>if decide (M y (s y)=k)=true then some (D.int ((s y:Nat):Int)) else none)) (Ks (l:=List.range h) (c:=λ y=> .tup [row w (M y),.int ((s y:Nat):Int)]) (Nk (aD rfl (aB rfl)) rfl rfl) (by rw[List.length_range];exact dY hh) λ y hy=>?_)) rfl))
 exact HD rfl (bw (au (au rfl rfl (lM (q.lt y (List.mem_range.mp hy)))) rfl nF)) rfl
theorem Vb {p:Nat->Bool}:∀{l:List Nat},(l.map λ a=>if p a=true then (1:Int) else 0).sum=0↔∀a∈l,p a=false
 |[]=>by simp
 | a ::l=>by
  have ih:=Vb (p:=p) (l:=l)
  have hp:∀l:List Nat,0<=(l.map λ a=>if p a=true then (1:Int) else 0).sum:=λ l=>by
   induction l with
   |nil=>exact Int.le_refl 0
   |cons a l ih=>rw[List.map_cons,List.sum_cons];split <;> (first |exact aaI ih |exact alz ih)
  have:=hp l
  rw[List.map_cons,List.sum_cons]
  cases e:p a with
  | true=>
   rw[if_pos rfl]
   exact⟨λ z=>by exact (alA z this).elim,λ z=>by have:=z a (by simp);rw[e] at this;injection this⟩
  | false=>
   rw[if_neg (by decide),Int.zero_add,ih]
   exact⟨λ z b hb=>by rcases List.mem_cons.mp hb with q |q;(· rw[q];exact e);exact z b q,λ z b hb=>z b (by simp[hb])⟩
theorem Vc {s:Nat->Nat} {k:Int}:cnt M h s k=0↔∀y < h,M y (s y)≠k:=by
 have:cnt M h s k=((List.range h).map λ y=>if decide (M y (s y)=k)=true then (1:Int) else 0).sum:=by unfold cnt;simp only[decide_eq_true_eq]
 rw[this,Vb]
 exact⟨λ z y hy=>of_decide_eq_false (z y (List.mem_range.mpr hy)),λ z y hy=>decide_eq_false (z y (List.mem_range.mp hy))⟩
end
end gZ
namespace gZ
open PySem PySem.Spec L2 Pu
section
variable {ns:List Int} {w h:Nat} {f M:Nat->Nat->Int} {T:Nat->Nat->Nat->Int} {m:Str} {s:Nat->Nat} {ρ:aq}
noncomputable def tI (l:List Int):D:= .tup (l.map .int)
noncomputable def cG (h:Nat) (s:Nat->Nat):List Int:=(List.range h).map λ y=>((s y:Nat):Int)
theorem agT:tI (cG h s)=sm h s:=by unfold tI cG;rw[List.map_map];rfl
noncomputable def ext (w:Nat) (l:List Int) (a:Int):List (List Int):=[a - 1,a,a+1].filterMap λ x=>if (decide (0<=x) && decide (x < (w:Int)))=true then some (l++[x]) else none
noncomputable def lst (l:List Int):Int:=l.getD (l.length - 1) 0
noncomputable def nQ (w:Nat):Nat->List (List Int)
 |0=>(List.range w).map λ x=>[((x:Nat):Int)]
 |k+1=>(nQ w k).flatMap λ l=>ext w l (lst l)
theorem Nt {k:Nat}:lst (cG (k+1) s)=((s k:Nat):Int):=by simp[lst,cG]
theorem Vd {k:Nat}:cG (k+1) s=cG k s++[((s k:Nat):Int)]:=by unfold cG;rw[List.range_succ,List.map_append];rfl
set_option tactic.hygienic true in
theorem aat {l r:List Int} {a:Int}:r∈ext w l a↔∃x,(x=a - 1\/x=a\/x=a+1)/\0<=x/\x < (w:Int)/\r=l++[x]:=by
 unfold ext
 rw[List.mem_filterMap]
 constructor
 ·rintro⟨x,hx,e⟩
  split at e
  ·rename_i hb
   (injection e with aH;obtain rfl:=aH)
   simp only[List.mem_cons,List.not_mem_nil,or_false] at hx
   simp only[Bool.and_eq_true,decide_eq_true_eq] at hb
   exact⟨x,hx,hb.1,hb.2,rfl⟩
  ·injection e
 ·rintro⟨x,hx,h0,h1,rfl⟩
  refine⟨x,by simpa using hx,?_⟩
  rw[if_pos (by simp[h0,h1])]
theorem Qp {s':Nat->Nat} {k:Nat} (e:∀y < k,s y=s' y):cG k s=cG k s':=by
 unfold cG
 exact List.map_congr_left λ y hy=>by rw[e y (List.mem_range.mp hy)]
theorem Nu {s':Nat->Nat} {k:Nat} (e:cG k s=cG k s'):∀y < k,s y=s' y:=λ y hy=>by
 have:=congrArg (λ l:List Int=>l[y]?) e
 simp only[cG,List.getElem?_map,List.getElem?_range hy,Option.map_some,Option.some.injEq] at this
 exact amh this
theorem zP:∀{k:Nat} {l:List Int},l∈nQ w k↔∃s,vH w (k+1) s/\l=cG (k+1) s
 | 0,l=>by
  unfold nQ
  rw[List.mem_map]
  constructor
  ·rintro⟨x,hx,rfl⟩
   exact⟨λ Z=>x,⟨λ Z Z=>List.mem_range.mp hx,λ y hy=>by exact ami⟩,rfl⟩
  ·rintro⟨s,q,rfl⟩
   exact⟨s 0,List.mem_range.mpr (q.lt 0 (by exact z0g _)),rfl⟩
 | k + 1,l=>by
  unfold nQ
  rw[List.mem_flatMap]
  constructor
  ·rintro⟨l',h',hl⟩
   obtain⟨s,q,rfl⟩:=zP.mp h'
   rw[Nt] at hl
   obtain⟨x,hx,h0,h1,rfl⟩:=aat.mp hl
   obtain⟨p,rfl⟩:=Int.eq_ofNat_of_zero_le h0
   have e1:∀y < k+1,(λ y=>if y=k+1 then p else s y) y=s y:=λ y hy=>if_neg (by exact Nat.ne_of_lt hy)
   refine⟨λ y=>if y=k+1 then p else s y,⟨λ y hy=>?_,λ y hy=>?_⟩,?_⟩
   ·by_cases e:y=k+1
    ·simp only[e,if_true];exact Int.ofNat_lt.mp h1
    ·simp only[e,if_false];exact q.lt y (by exact amj hy e)
   ·by_cases e:y=k
    ·subst e
     simp only[if_true,show ¬y=y+1 by exact amk,if_false];exact aml hx
    ·simp only[show ¬y+1=k+1 by exact amm e,show ¬y=k+1 by exact amn hy,if_false];exact q.st y (by exact amo hy e)
   ·rw[Vd (k:=k+1),Qp e1];simp
  ·rintro⟨s,q,rfl⟩
   refine⟨cG (k+1) s,zP.mpr ⟨s,⟨λ y hy=>q.lt y (by exact Nat.lt_succ_of_lt hy),λ y hy=>q.st y (by exact Nat.lt_succ_of_lt hy)⟩,rfl⟩,?_⟩
   rw[Nt,aat]
   have a:=q.st k (by exact z0g _)
   have b:=q.lt (k+1) (by exact z0g _)
   exact⟨((s (k+1):Nat):Int),by exact amq a,by exact z0a _,by exact Int.ofNat_lt.mpr b,Vd⟩
theorem Nv {l:List Int} {a:Int}:(ext w l a).length<=3:=by unfold ext;exact List.length_filterMap_le _ _
theorem Qq {F:List Int->List (List Int)}:∀{l:List (List Int)},(∀a∈l,(F a).length<=3)->(l.flatMap F).length<=3*l.length
 |[],_=>by simp
 | a::l,h=>by
  rw[List.flatMap_cons,List.length_append,List.length_cons]
  have h1:=h a (by simp)
  have h2:=Qq (l:=l) λ b hb=>h b (by simp[hb])
  exact amr h1 h2
theorem aau:∀{k:Nat},(nQ w k).length<=w*3 ^ k
 |0=>by simp[nQ]
 | k+1=>by
  unfold nQ
  have:=Qq (F:=λ l=>ext w l (lst l)) (l:=nQ w k) λ a Z=>Nv
  have h2:=aau (k:=k)
  rw[Nat.pow_succ]
  have:w*(3 ^ k*3)=3*(w*3 ^ k):=by rw[Nat.mul_comm (3 ^ k) 3,<-Nat.mul_assoc,Nat.mul_comm w 3,Nat.mul_assoc]
  exact ams (by assumption) this h2
theorem afK {k:Nat} (hw:w<=4) (hk:k<=3):(nQ w k).length<=108:=by
 have:=aau (w:=w) (k:=k)
 have h3:3 ^ k<=27:=by
  have:k=0\/k=1\/k=2\/k=3:=by exact amt hk
  rcases this with rfl |rfl |rfl |rfl <;> decide
 have:w*3 ^ k<=4*27:=Nat.mul_le_mul hw h3
 exact amu (by assumption) this
theorem Nx {k:Nat}:bZ (tI (cG (k+1) s)) (.int (-1))= .ok (.int ((s k:Nat):Int)):=by
 have:atI ((cG (k+1) s).map D.int) (-1)=some (.int ((s k:Nat):Int)):=by
  unfold atI ixN
  rw[if_neg (by exact amv),if_pos (by simp[cG];exact amw)]
  show ((cG (k+1) s).map D.int)[_]?=_
  have e:(-1+(((cG (k+1) s).map D.int).length:Int)).toNat=k:=by simp[cG];exact amx
  rw[e]
  simp[cG]
 show bZ (.tup ((cG (k+1) s).map D.int)) (.int (-1))=_
 rw[bZ,this]
theorem ahH {l:List Int} {a:Int}:(ext w l a).map tI=[a - 1,a,a+1].filterMap λ x=>if (decide (0<=x) && decide (x < (w:Int)))=true then some (tI (l++[x])) else none:=by
 unfold ext
 rw[List.map_filterMap]
 congr 1
 funext x
 split <;> rfl
theorem ajw {k:Nat} (hk:k < 20) (q:vH w (k+1) s) {e1 e2 e3:Option Ent} {acc:List D} (hl:acc.length<=1000):
  wyI [vA (.int (w:Int)),e1,e2,e3,vA (.lst acc),vA (tI (cG (k+1) s))]= .nx [vA (.int (w:Int)),e1,e2,e3,vA (.lst (acc++(ext w (cG (k+1) s) (lst (cG (k+1) s))).map tI)),vA (tI (cG (k+1) s))]:=by
 have hlen:=Nv (w:=w) (l:=cG (k+1) s) (a:=lst (cG (k+1) s))
 have hwl:(cG (k+1) s).length=k+1:=by simp[cG]
 rw[Nt] at hlen |-
 refine bH (au rfl (y:= .lst ((ext w (cG (k+1) s) ((s k:Nat):Int)).map tI)) ?_ (ahv (by rw[List.length_map];exact amy hl hlen))) rfl
 rw[ahH]
 refine Ks (l:=[((s k:Nat):Int) - 1,((s k:Nat):Int),((s k:Nat):Int)+1]) (c:=D.int) (jf (eN (aD (au (au rfl rfl Nx) rfl rfl) (aD (au rfl rfl Nx) (aB (au (au rfl rfl Nx) rfl rfl)))))) (by simp) λ x hx=>?_
 refine HD rfl ?_ (au rfl (eN (aB rfl)) ((nD (by rw[List.length_map,hwl];simp;exact amA hk)).trans (by rw[tI,List.map_append];rfl)))
 by_cases h0:0<=x
 ·rw[decide_eq_true h0,Bool.true_and]
  exact pB (bw (au rfl rfl (Kl h0))) (bw (au rfl rfl rfl))
 ·rw[decide_eq_false h0,Bool.false_and]
  refine Ho (bw (au rfl rfl ?_))
  show R.ok (D.bl (decide _))=_
  rw[decide_eq_false h0]
theorem Ve {k:Nat} (hk:k < 20) {e1 e2 e3:Option Ent}:∀{ws:List (List Int)} {acc:List D} {e5:Option Ent},(∀l∈ws,∃s,vH w (k+1) s/\l=cG (k+1) s)->acc.length+3*ws.length<=1000->
  ∃z5,forL (aV 5) wyI (ws.map tI) [vA (.int (w:Int)),e1,e2,e3,vA (.lst acc),e5]= .nx [vA (.int (w:Int)),e1,e2,e3,vA (.lst (acc++(ws.flatMap λ l=>ext w l (lst l)).map tI)),z5]
 |[],acc,e5,_,_=>⟨e5,by simp[Dm]⟩
 | l::ws,acc,e5,hw,hl=>by
  rw[List.length_cons] at hl
  obtain⟨s,q,rfl⟩:=hw l (by simp)
  have hlen:=Nv (w:=w) (l:=cG (k+1) s) (a:=lst (cG (k+1) s))
  obtain⟨z5,e⟩:=Ve hk (e1:=e1) (e2:=e2) (e3:=e3) (ws:=ws) (acc:=acc++(ext w (cG (k+1) s) (lst (cG (k+1) s))).map tI) (e5:=vA (tI (cG (k+1) s))) (λ l hl=>hw l (by simp[hl])) (by rw[List.length_append,List.length_map];exact amB hl hlen)
  refine⟨z5,iU rfl (ajw hk q (by exact amC hl)) (e.trans ?_)⟩
  rw[List.flatMap_cons,List.map_append,List.append_assoc]
theorem ajx {k:Nat} (hk:k < 3) (hw:w<=4) {e1 e3 e4 e5:Option Ent}:∃z4 z5,wyO [vA (.int (w:Int)),e1,vA (.lst ((nQ w k).map tI)),e3,e4,e5]= .nx [vA (.int (w:Int)),e1,vA (.lst ((nQ w (k+1)).map tI)),e3,z4,z5]:=by
 have hl:=afK (k:=k) hw (by exact z0e hk)
 obtain⟨z5,e⟩:=Ve (w:=w) (k:=k) (by exact amD hk) (e1:=e1) (e2:=vA (.lst ((nQ w k).map tI))) (e3:=e3) (ws:=nQ w k) (acc:=[]) (e5:=e5) (λ l hl=>zP.mp hl) (by simp;exact amE hl)
 exact⟨_,z5,aM (bH (iB rfl) rfl) (aM (nZ (qJ rfl) e) (bH (d:= .lst ((nQ w (k+1)).map tI)) rfl rfl))⟩
theorem Vf (hw:w<=4) {e1:Option Ent}:∀{r k:Nat} {ys:List Nat} {e3 e4 e5:Option Ent},ys.length=r->k+r<=3->∃z3 z4 z5,forL (aV 3) wyO (ys.map λ (y:Nat)=>D.int (y:Int)) [vA (.int (w:Int)),e1,vA (.lst ((nQ w k).map tI)),e3,e4,e5]= .nx [vA (.int (w:Int)),e1,vA (.lst ((nQ w (k+r)).map tI)),z3,z4,z5]
 |0,k,ys,e3,e4,e5,hl,_=>by cases List.length_eq_zero_iff.mp hl;exact⟨e3,e4,e5,rfl⟩
 | r +1,k,ys,e3,e4,e5,hl,hk=>by
  cases ys with
  |nil=>injection hl
  | cons y ys=>
   obtain⟨y4,y5,e⟩:=ajx (k:=k) (by exact amF hk) hw (e1:=e1) (e3:=vA (.int (y:Int))) (e4:=e4) (e5:=e5)
   obtain⟨z3,z4,z5,e'⟩:=Vf hw (e1:=e1) (r:=r) (k:=k+1) (ys:=ys) (e3:=vA (.int (y:Int))) (e4:=y4) (e5:=y5) (by simpa using hl) (by exact amG hk)
   rw[show k+1+r=k+(r+1) by exact Nat.add_right_comm _ _ _] at e'
   exact⟨z3,z4,z5,iU rfl e e'⟩
theorem ahI (hw:w<=4) (h1:1<=h) (hh:h<=4):lV [.int (w:Int),.int (h:Int)]= .ok (.lst ((nQ w (h - 1)).map tI)):=by
 obtain⟨z3,z4,z5,e⟩:=Vf hw (e1:=vA (.int (h:Int))) (r:=h - 1) (k:=0) (ys:=List.range (h - 1)) (e3:=none) (e4:=none) (e5:=none) (by simp) (by exact amH hh)
 rw[Nat.zero_add] at e
 refine cH (aM (bH (d:= .lst ((nQ w 0).map tI)) ?_ rfl) (aM (nZ (mL (m:=h - 1) (aB (au rfl rfl (Ei h1))) (by exact amI hh)) e) (bN rfl)))
 have:(nQ w 0).map tI=(List.range w).map λ (x:Nat)=>D.tup [.int (x:Int)]:=by unfold nQ;rw[List.map_map];rfl
 rw[this]
 exact cQ (c:=λ (x:Nat)=>D.int (x:Int)) (h:=λ (x:Nat)=>D.tup [.int (x:Int)]) (l:=List.range w) (mL (aB rfl) (by exact amJ hw)) (by rw[List.length_range];exact amK hw) λ x hx=>c7 rfl (eN (aB rfl))
theorem ajy {p q:aq->R Bool} (e1:p ρ= .ok true):Cw p q ρ= .ok true:=by rw[Cw,e1,R.bL,if_pos rfl]
noncomputable def bD:Option Wy->D
 |none=> .non
 |some t=>dZ t
theorem adV {a b:Wy}:Ux (dZ a) (dZ b)= .ok (.bl (lt a b)):=by
 have e:∀t:Wy,oA (dZ t)=some (fl t):=λ t=>by rw[Bc];exact DP
 rw[Ux,e,e]
theorem aou:dZ (wS T M h s)= .tup [.int (-gn M h s),.int (cost h T s),sm h s]:=by
 rw[<-agT];rfl
theorem abh {s':Nat->Nat} (h1:1<=h) (e:∀y < h,s y=s' y):cost h T s=cost h T s':=by
 unfold cost
 rw[e 0 h1]
 congr 2
 refine List.map_congr_left λ y hy=>?_
 have hy:y+1 < h:=by have:=List.mem_range.mp hy;exact agn this
 unfold fare
 rw[e (y+1) hy,e (y+1 - 1) (by exact z0e hy)]
theorem Vg {s':Nat->Nat} (h1:1<=h) (e:∀y < h,s y=s' y):wS T M h s=wS T M h s':=by
 unfold wS
 rw[abh h1 e,show gn M h s=gn M h s' by unfold gn;exact congrArg List.sum (List.map_congr_left λ y hy=>by rw[e y (List.mem_range.mp hy)])]
 exact congrArg (λ z=>(_,_,z)) (Qp e)
theorem adW {s':Nat->Nat} (e:∀y < h,s y=s' y) (q:qb w h M s):qb w h M s':=
 ⟨⟨λ y hy=>by rw[<-e y hy];exact q.sm.lt y hy,λ y hy=>by rw[<-e y (by exact z0e hy),<-e (y+1) hy];exact q.sm.st y hy⟩,λ y hy=>by rw[<-e y hy];exact q.ne y hy⟩
noncomputable def HX (w h:Nat) (T:Nat->Nat->Nat->Int) (M:Nat->Nat->Int) (seen:List (List Int)):Option Wy->Prop
 |none=>∀s,cG h s∈seen->¬qb w h M s
 |some t=>(∃s,qb w h M s/\t=wS T M h s)/\∀s,cG h s∈seen->qb w h M s->lt (wS T M h s) t=false
theorem afL {seen:List (List Int)} {b:Option Wy} (hs:¬qb w h M s) (q:HX w h T M seen b):HX w h T M (seen++[cG h s]) b:=by
 have key:∀s',cG h s'∈seen++[cG h s]->qb w h M s'->cG h s'∈seen:=λ s' h' q'=>by
  rcases List.mem_append.mp h' with z |z
  ·exact z
  ·exact absurd (adW (Nu (List.mem_singleton.mp z)) q') hs
 cases b with
 |none=>exact λ s' h' q'=>q s' (key s' h' q') q'
 |some t=>exact⟨q.1,λ s' h' q'=>q.2 s' (key s' h' q') q'⟩
theorem Vh {seen:List (List Int)} {b:Option Wy} (h1:1<=h) (hs:qb w h M s) (q:HX w h T M seen b) (hb:∀t,b=some t->lt (wS T M h s) t=true):HX w h T M (seen++[cG h s]) (some (wS T M h s)):=by
 refine⟨⟨s,hs,rfl⟩,λ s' h' q'=>?_⟩
 rcases List.mem_append.mp h' with z |z
 ·cases b with
  |none=>exact absurd q' (q s' z)
  | some t=>
   have a:=q.2 s' z q'
   cases e:lt (wS T M h s') (wS T M h s) with
   |false=>rfl
   | true=>
    have:=mR e (hb t rfl)
    exact this.symm.trans a
 ·rw[Vg (T:=T) (M:=M) h1 (Nu (List.mem_singleton.mp z))];exact pD _
theorem adX {seen:List (List Int)} {t:Wy} (h1:1<=h) (q:HX w h T M seen (some t)) (hb:lt (wS T M h s) t=false):HX w h T M (seen++[cG h s]) (some t):=by
 refine⟨q.1,λ s' h' q'=>?_⟩
 rcases List.mem_append.mp h' with z |z
 ·exact q.2 s' z q'
 ·rw[Vg (T:=T) (M:=M) h1 (Nu (List.mem_singleton.mp z))];exact hb
theorem ajz (hm:m= "worth"\/m= "joins") (o:Ok w h f) (q:vH w h s) {seen:List (List Int)} {b:Option Wy} (hb:HX w h (tbl m w h f) M seen b) {e5:Option Ent}:
  ∃b' z5,beB [vA (bJ w h f),vA (.str m),vA (bJ w h M),vA (bD b),vA (tI (cG h s)),e5]= .nx [vA (bJ w h f),vA (.str m),vA (bJ w h M),vA (bD b'),vA (tI (cG h s)),z5]/\HX w h (tbl m w h f) M (seen++[cG h s]) b':=by
 have e1:=Va (M:=M) (k:=1) o.h2 q
 rw[agT]
 by_cases hc:cnt M h s 1=0
 ·have fr:qb w h M s:=⟨q,Vc.mp hc⟩
  have eh:dh (ao (tu (aF (bh gR 3) (ao (λ ρ=>ak ρ 2) (ao (λ ρ=>ak ρ 4) (ao (λ Z=> .ok (.int 2)) (λ Z=> .ok [])))))) (ao (aF (bh jR 3) (ao (λ ρ=>ak ρ 0) (ao (λ ρ=>ak ρ 1) (ao (λ ρ=>ak ρ 4) (λ Z=> .ok []))))) (ao (λ ρ=>ak ρ 4) (λ Z=> .ok [])))) [vA (bJ w h f),vA (.str m),vA (bJ w h M),vA (bD b),vA (sm h s),e5]= .ok (dZ (wS (tbl m w h f) M h s)):=by
   rw[aou]
   exact eN (aD (ajv (bF (aD rfl (aD rfl (aB rfl))) (Va o.h2 q))) (aD (bF (aD rfl (aD rfl (aB rfl))) (Yc hm o q)) (aB rfl)))
  cases b with
  | none=>
   exact⟨some (wS (tbl m w h f) M h s),vA (dZ (wS (tbl m w h f) M h s)),eO (bw (au (bF (aD rfl (aD rfl (aB rfl))) e1) rfl (by rw[nF,decide_eq_true hc]))) (aM (bH eh rfl) (bH (zN (ajy (bw (au rfl rfl rfl))) rfl) rfl)),Vh o.h1 fr hb λ t e=>nomatch e⟩
  | some t=>
   cases hlt:lt (wS (tbl m w h f) M h s) t with
   | true=>
    exact⟨some (wS (tbl m w h f) M h s),vA (dZ (wS (tbl m w h f) M h s)),eO (bw (au (bF (aD rfl (aD rfl (aB rfl))) e1) rfl (by rw[nF,decide_eq_true hc]))) (aM (bH eh rfl) (bH (zN (sO (bw (au rfl rfl rfl)) (bw (au rfl rfl (adV.trans (by rw[hlt]))))) rfl) rfl)),Vh o.h1 fr hb λ t' e=>by (injection e with aH;obtain rfl:=aH);exact hlt⟩
   | false=>
    exact⟨some t,vA (dZ (wS (tbl m w h f) M h s)),eO (bw (au (bF (aD rfl (aD rfl (aB rfl))) e1) rfl (by rw[nF,decide_eq_true hc]))) (aM (bH eh rfl) (bH (Hz (sO (bw (au rfl rfl rfl)) (bw (au rfl rfl (adV.trans (by rw[hlt]))))) rfl) rfl)),adX o.h1 hb hlt⟩
 ·exact⟨b,e5,cZ (bw (au (bF (aD rfl (aD rfl (aB rfl))) e1) rfl (by rw[nF,decide_eq_false hc]))) rfl,afL (λ z=>hc (Vc.mpr z.ne)) hb⟩
theorem aav (hm:m= "worth"\/m= "joins") (o:Ok w h f):∀{ws seen:List (List Int)} {b:Option Wy} {e4 e5:Option Ent},(∀l∈ws,∃s,vH w h s/\l=cG h s)->HX w h (tbl m w h f) M seen b->
  ∃b' z4 z5,forL (aV 4) beB (ws.map tI) [vA (bJ w h f),vA (.str m),vA (bJ w h M),vA (bD b),e4,e5]= .nx [vA (bJ w h f),vA (.str m),vA (bJ w h M),vA (bD b'),z4,z5]/\HX w h (tbl m w h f) M (seen++ws) b'
 |[],seen,b,e4,e5,_,hb=>⟨b,e4,e5,rfl,by rw[List.append_nil];exact hb⟩
 | l::ws,seen,b,e4,e5,hw,hb=>by
  obtain⟨s,q,rfl⟩:=hw l (by simp)
  obtain⟨b1,y5,e1,h1⟩:=ajz hm o q hb (e5:=e5)
  obtain⟨b',z4,z5,e2,h2⟩:=aav hm o (ws:=ws) (seen:=seen++[cG h s]) (b:=b1) (e4:=vA (tI (cG h s))) (e5:=y5) (λ l hl=>hw l (by simp[hl])) h1
  exact⟨b',z4,z5,iU rfl e1 e2,by rw[List.append_assoc] at h2;exact h2⟩
theorem Jr (hm:m= "worth"\/m= "joins") (o:Ok w h f) (hw:w<=4) (hh:h<=4):lW [bJ w h f,.str m,bJ w h M]= .ok (lsD (cC (topC w h (tbl m w h f) M))):=by
 have h1:=o.h1
 have hk:h - 1+1=h:=by exact Nat.sub_add_cancel h1
 obtain⟨b,z4,z5,e,hb⟩:=aav (M:=M) hm o (ws:=nQ w (h - 1)) (seen:=[]) (b:=none) (e4:=none) (e5:=none) (λ l hl=>by have:=zP.mp hl;rwa [hk] at this) (λ s hs=>by cases hs)
 rw[List.nil_append] at hb
 have all:∀s,qb w h M s->cG h s∈nQ w (h - 1):=λ s q=>zP.mpr ⟨s,by rw[hk];exact⟨q.sm,rfl⟩⟩
 have fin:(retS (Dk (cL (bin (λ ρ=>ak ρ 3) (λ Z=> .ok .non) isD)) (λ Z=> .ok .non) (bin (λ ρ=>ak ρ 3) (λ Z=> .ok (.int 2)) bZ))) [vA (bJ w h f),vA (.str m),vA (bJ w h M),vA (bD b),z4,z5]= .rt (lsD (cC (topC w h (tbl m w h f) M))):=by
  rcases least (w:=w) (h:=h) (T:=tbl m w h f) (M:=M) h1 with⟨en,hno⟩ |⟨s,en,hs⟩
  ·rw[en]
   cases b with
   |none=>exact bN (zN (bw (au rfl rfl rfl)) rfl)
   |some t=>obtain⟨⟨s,q,_⟩,_⟩:=hb;exact absurd q (hno s)
  ·rw[en]
   cases b with
   |none=>exact absurd hs.1 (hb s (all s hs.1))
   | some t=>
    obtain⟨⟨s',q',rfl⟩,hle⟩:=hb
    have e1:=hs.2 s' q'
    have e2:=hle s (all s hs.1) hs.1
    rw[ajq e2 e1]
    exact bN (Hz (bw (au rfl rfl rfl)) (au (y:= .int 2) rfl rfl (pQ (i:=2) rfl)))
 exact cH (aM (bH rfl rfl) (aM (nZ (qJ (bF (aD (len0 o rfl) (aB (bx (aB rfl) qU))) (ahI hw h1 hh))) e) fin))
end
end gZ
namespace gZ
open PySem PySem.Spec L2 Pu
section
variable {ns:List Int} {w h:Nat} {f M:Nat->Nat->Int} {T:Nat->Nat->Nat->Int} {m:Str} {s:Nat->Nat} {ρ:aq}
theorem ajA (hns:ns.length<=1000000):∃w h f,lX [.lst (ns.map .int),.int 0,.int 4,.int 3]= .ok (bJ w h f)/\Ok w h f/\w<=4/\h<=3:=by
 obtain⟨e1,h1,h2⟩:=pW (k:=0) (m:=4) hns (by exact z0a _) (by exact z0a _)
 obtain⟨e2,h3,h4⟩:=pW (k:=0+1) (m:=3) hns (by exact z0a _) (by exact z0a _)
 obtain⟨w,hw⟩:=Int.eq_ofNat_of_zero_le (show 0<=1+dr ns 0 4 by exact aaI h1)
 obtain⟨h,hh⟩:=Int.eq_ofNat_of_zero_le (show 0<=1+dr ns (0+1) 3 by exact aaI h3)
 obtain⟨f,e,o⟩:=abb (ns:=ns) (a:=0+2) (w:=w) (h:=h) hns (by exact z0a _) (by exact amL hw h2) (by exact agE hw h1) (by exact amM hh h4) (by exact agE hh h3)
 refine⟨w,h,f,cH (bN (bF (aD rfl (aD (au rfl rfl rfl) (aD (au rfl (bF (aD rfl (aD rfl (aB rfl))) e1) (congrArg (λ z=>R.ok (D.int z)) hw)) (aB (au rfl (bF (aD rfl (aD (au rfl rfl rfl) (aB rfl))) e2) (congrArg (λ z=>R.ok (D.int z)) hh)))))) e)),o,by exact amN hw h2,by exact amO hh h4⟩
noncomputable def Sg (sg:List Int):Prop:=0 < sg.length/\sg.length<=5/\∀i∈sg,0<=i/\i<=2
theorem Sg.get {sg:List Int} (s:Sg sg) (k:Nat):0<=sg.getD k 0/\sg.getD k 0<=2:=by
 by_cases hk:k < sg.length
 ·have:sg.getD k 0=sg[k]:=by simp[hk]
  rw[this];exact s.2.2 _ (List.getElem_mem _)
 ·have:sg.getD k 0=0:=by simp[List.getD,List.getElem?_eq_none (Nat.le_of_not_lt hk)]
  rw[this];exact alB
theorem am9 {sg:List Int} {k:Int} (h0:0<=k) (h1:k < sg.length):bZ (.lst (sg.map .int)) (.int k)= .ok (.int (sg.getD k.toNat 0)):=by
 obtain⟨n,rfl⟩:=Int.eq_ofNat_of_zero_le h0
 have hn:n < sg.length:=by exact Int.ofNat_lt.mp h1
 refine T7 (i:=n) ?_
 rw[List.getElem?_map,List.getElem?_eq_getElem hn]
 simp[hn]
noncomputable def mks (ns:List Int) (w:Nat) (sg:List Int) (y x:Nat):Int:=sg.getD (dr ns (30+1+(w:Int)*(y:Int)+(x:Int)) sg.length).toNat 0
theorem ajB (hns:ns.length<=1000000) (hw:w<=20) {sg:List Int} (s:Sg sg) {y:Nat} (hy:y < 20) {e2 e7:Option Ent} {acc:List D} (hl:acc.length<=1000):
  mkB [vA (.lst (ns.map .int)),vA (.int 30),e2,some (.lst acc),vA (.lst (sg.map .int)),vA (.int (y:Int)),vA (row w (f y)),e7] =
   .nx [vA (.lst (ns.map .int)),vA (.int 30),e2,some (.lst (acc++[row w (mks ns w sg y)])),vA (.lst (sg.map .int)),vA (.int (y:Int)),vA (row w (f y)),vA (.int (30+1+(w:Int)*(y:Int)))]:=by
 have hp:(0:Int)<=(w:Int)*(y:Int):=Int.mul_nonneg (by exact z0a _) (by exact z0a _)
 refine aM (bH (d:= .int (30+1+(w:Int)*(y:Int))) (au (x:= .int (30+1)) (au rfl rfl rfl) (au (bx (aB rfl) qT) rfl ((show vd (.int (w:Int)) (.int (y:Int))=ji (.int (w:Int)) (.int (y:Int)) from rfl).trans (nY (.inl (by exact amP hw))))) rfl) rfl) ?_
 refine Ej (ds:=acc) (bx (aB (cQ (c:=λ (x:Nat)=>D.int (x:Int)) (h:=λ x=> .int (mks ns w sg y x)) (l:=List.range w) (mL (aB (bx (aB rfl) qT)) (by omega)) (by rw[List.length_range];exact dY hw) λ x hx=>?_)) rfl) rfl (by omega)
 obtain⟨e1,h1,h2⟩:=pW (k:=30+1+(w:Int)*(y:Int)+(x:Int)) (m:=(sg.length:Int)) hns (by exact z0a _) (by have:=s.1;exact Int.ofNat_lt.mpr this)
 have hlen:cM [.lst (sg.map .int)]= .ok (.int (sg.length:Int)):=by simp[uX,qF]
 exact c7 rfl (au rfl (bF (aD rfl (aD (au rfl rfl rfl) (aB (bx (aB rfl) hlen)))) e1) (am9 h1 h2))
theorem aaw (hns:ns.length<=1000000) (hw:w<=20) {sg:List Int} (s:Sg sg) {e2:Option Ent}:∀{ys:List Nat} {acc:List D} {e5 e6 e7:Option Ent},(∀y∈ys,y < 20)->acc.length+ys.length<=1000->
  ∃ z5 z6 z7,forL (eV (eX 2 (bR (aV 5) (bR (aV 6) nilG)))) mkB (ys.map λ (y:Nat)=>D.tup [.int (y:Int),row w (f y)]) [vA (.lst (ns.map .int)),vA (.int 30),e2,some (.lst acc),vA (.lst (sg.map .int)),e5,e6,e7] =
   .nx [vA (.lst (ns.map .int)),vA (.int 30),e2,some (.lst (acc++ys.map λ y=>row w (mks ns w sg y))),vA (.lst (sg.map .int)),z5,z6,z7]
 |[],acc,e5,e6,e7,_,_=>⟨e5,e6,e7,by simp[Dm]⟩
 | y::ys,acc,e5,e6,e7,hy,hl=>by
  rw[List.length_cons] at hl
  obtain⟨z5,z6,z7,e⟩:=aaw hns hw s (e2:=e2) (ys:=ys) (acc:=acc++[row w (mks ns w sg y)]) (e5:=vA (.int (y:Int))) (e6:=vA (row w (f y))) (e7:=vA (.int (30+1+(w:Int)*(y:Int)))) (λ q hq=>hy q (by simp[hq])) (by simp;exact aaF hl)
  exact⟨z5,z6,z7,iU rfl (ajB hns hw s (hy y (by simp)) (by exact S5 hl)) (e.trans (by rw[List.map_cons,List.append_assoc];rfl))⟩
theorem afM (hns:ns.length<=1000000) (o:Ok w h f):∃M,jY [.lst (ns.map .int),.int 30,bJ w h f]= .ok (bJ w h M)/\Mk w h M:=by
 have ju:=o.h2
 obtain⟨e1,h0,h4⟩:=pW (k:=30) (m:=4) hns (by exact z0a _) (by exact z0a _)
 obtain⟨d,hd,ed⟩:=Hl (xs:=[D.lst (([0,0,0,1,2]:List Int).map .int),.lst (([0,0,0,0,1]:List Int).map .int),.lst (([0,0,2,0,0]:List Int).map .int),.lst (([0]:List Int).map .int)]) h0 h4
 have hs:∃sg,d= .lst (sg.map .int)/\Sg sg:=by
  simp only[List.mem_cons,List.not_mem_nil,or_false] at hd
  rcases hd with rfl |rfl |rfl |rfl
  ·exact⟨[0,0,0,1,2],rfl,by decide,by decide,by decide⟩
  ·exact⟨[0,0,0,0,1],rfl,by decide,by decide,by decide⟩
  ·exact⟨[0,0,2,0,0],rfl,by decide,by decide,by decide⟩
  ·exact⟨[0],rfl,by decide,by decide,by decide⟩
 obtain⟨sg,rfl,s⟩:=hs
 obtain⟨z5,z6,z7,e⟩:=aaw (f:=f) hns o.w2 s (e2:=vA (bJ w h f)) (ys:=List.range h) (acc:=[]) (e5:=none) (e6:=none) (e7:=none) (λ y hy=>by have:=List.mem_range.mp hy;exact z0d this ju) (by simp;exact aaH ju)
 refine⟨mks ns w sg,cH (aM (lZ rfl) (aM (bH (au (x:= .lst [D.lst (([0,0,0,1,2]:List Int).map .int),.lst (([0,0,0,0,1]:List Int).map .int),.lst (([0,0,2,0,0]:List Int).map .int),.lst (([0]:List Int).map .int)]) (iB (aD (iB rfl) (aD (iB rfl) (aD (iB rfl) (aB (iB rfl)))))) (bF (aD rfl (aD rfl (aB rfl))) e1) (zA ed)) rfl) (aM (nZ (uM (aB rfl) rfl) e) (bN (bx (aB rfl) rfl))))),λ y x=>s.get _⟩
theorem adY (hns:ns.length<=1000000):∃m:Str,(m= "worth"\/m= "joins")/\jA [.lst (ns.map .int),.int 60]= .ok (.str m):=by
 obtain⟨e1,h0,h2⟩:=pW (k:=60) (m:=2) hns (by exact z0a _) (by exact z0a _)
 obtain⟨d,hd,ed⟩:=Hl (xs:=[D.str "worth",.str "joins"]) h0 h2
 simp only[List.mem_cons,List.not_mem_nil,or_false] at hd
 rcases hd with rfl |rfl
 ·exact⟨"worth",.inl rfl,cH (bN (au (x:= .lst [D.str "worth",.str "joins"]) (iB rfl) (bF (aD rfl (aD rfl (aB rfl))) e1) (zA ed)))⟩
 ·exact⟨"joins",.inr rfl,cH (bN (au (x:= .lst [D.str "worth",.str "joins"]) (iB rfl) (bF (aD rfl (aD rfl (aB rfl))) e1) (zA ed)))⟩
theorem Vi {α β:Type} {f:α->Option β} {g:α->β}:∀{l:List α},(∀a∈l,f a=some (g a))->l.filterMap f=l.map g
 |[],_=>rfl
 |a::l,h=>by rw[List.filterMap_cons_some (h a (by simp)),List.map_cons,Vi λ b hb=>h b (by simp[hb])]
theorem ahJ {g:Nat->Int} {n:Nat} (hn:n < w):(List.range w).filterMap (λ x=>if x=n then none else some (D.int (g x)))=(List.range (w - 1)).map λ x=>D.int (if x < n then g x else g (x+1)):=by
 rw[<-UJ hn,<-List.map_take,<-List.map_drop]
 have e2:List.range w=(List.range w).take n++n::(List.range w).drop (n+1):=by
  have:=List.take_append_drop n (List.range w)
  rw[List.drop_eq_getElem_cons (by simpa using hn)] at this
  simpa using this.symm
 conv=>lhs;rw[e2]
 rw[List.filterMap_append,List.filterMap_cons_none (by simp),Vi (g:=λ x=>D.int (g x)) λ x hx=>?_,Vi (g:=λ x=>D.int (g x)) λ x hx=>?_]
 ·obtain⟨i,hi,e⟩:=List.mem_iff_getElem.mp hx
  simp at e
  rw[if_neg (by exact alC e)]
 ·rw[List.take_range] at hx
  have:=List.mem_range.mp hx
  rw[if_neg (by exact alD this)]
theorem Qs (q:vH w h s) (ju:h<=20) (w20:w<=20):lA [bJ w h f,sm h s]= .ok (bJ (w - 1) h (less s f)):=by
 refine cH (bN (bx (aB (cQ (c:=λ y=> .tup [row w (f y),.int ((s y:Nat):Int)]) (h:=λ y=>row (w - 1) (less s f y)) (l:=List.range h) (Nk (aD rfl (aB rfl)) rfl rfl) (by rw[List.length_range];exact dY ju) λ y hy=>?_)) rfl))
 refine c7 rfl (bx (aB (x:= .lst ((List.range w).filterMap λ x=>if x=s y then none else some (D.int (f y x)))) (Ks (l:=List.range w) (c:=λ (x:Nat)=>D.tup [.int (x:Int),.int (f y x)]) (uM (aB rfl) rfl) (by rw[List.length_range];exact dY w20) λ x hx=>?_)) ?_)
 ·have e:jW (.int (x:Int)) (.int ((s y:Nat):Int))= .ok (.bl (!decide (x=s y))):=by
   rw[jW,if_pos (by simp[jr,jt,uo,uq,ur,uw])]
   show R.ok (D.bl (!gk (.int (x:Int)) (.int ((s y:Nat):Int))))=_
   by_cases h:x=s y
   ·simp[aN,aO,aP,aQ,aR,aL,aK,h]
   ·have h':¬(x:Int)=((s y:Nat):Int):=by exact alE h
    simp[aN,aO,aP,aQ,aR,aL,aK,h,h']
  refine (HD rfl (bw (au rfl rfl e)) rfl).trans ?_
  by_cases h:x=s y
  ·simp[h]
  ·simp[h]
 ·rw[ahJ (q.lt y (List.mem_range.mp hy))];rfl
theorem Vj {α:Type} {c:α->Bool}:∀{l:List α},boolsOf (l.map λ a=>D.bl (c a))=some (l.map c)
 |[]=>rfl
 | a::l=>by
  show (boolsOf (l.map λ a=>D.bl (c a))).map (c a:: ·)=_
  rw[Vj];rfl
noncomputable def tw (w:Nat) (g:Nat->Int):Bool:=(List.range w).any λ x=>decide (g x=2)
noncomputable def o9 (w h:Nat) (M:Nat->Nat->Int):Bool:=(List.range h).any λ y=>tw w (M y)
theorem adZ {g:Nat->Int}:zH false (.int 2) (row w g)= .ok (.bl (tw w g)):=by
 have fl:((List.range w).map λ x=>D.int (g x)).all iG=true:=List.all_eq_true.mpr λ d hd=>by
  obtain⟨x,_,rfl⟩:=List.mem_map.mp hd
  rfl
 show (if iG (.int 2)=true/\((List.range w).map λ x=>D.int (g x)).all iG=true then R.ok (D.bl (((List.range w).map λ x=>D.int (g x)).any λ y=>gk y (.int 2))) else .bad)=_
 rw[if_pos ⟨rfl,fl⟩,List.any_map]
 rfl
theorem any_eq {u:aq->R D} (hh:h<=20) (e:u ρ= .ok (bJ w h M)):aF aa7 (ao (cj 1 [] (fB u) (aV 0) (λ Z=> .ok true) (bin (λ Z=> .ok (.int 2)) (λ ρ=>ak ρ 0) (zH false))) (λ Z=> .ok [])) ρ= .ok (.bl (o9 w h M)):=by
 refine bx (aB (cQ (c:=λ y=>row w (M y)) (h:=λ y=>D.bl (tw w (M y))) (l:=List.range h) (jf e) (by rw[List.length_range];exact dY hh) λ y Z=>c7 rfl (au rfl rfl adZ))) ?_
 show (match boolsOf ((List.range h).map λ y=>D.bl (tw w (M y))) with |some bs=>R.ok (D.bl (bs.any id)) |none=> .bad)=_
 rw[Vj]
 show R.ok (D.bl _)=_
 rw[List.any_map];rfl
noncomputable def R2 (w h:Nat) (M:Nat->Nat->Int):List D:=(List.range h).filterMap λ y=>if tw w (M y)=true then some (row w (M y)) else none
theorem ad0:R2 w h M=[]↔o9 w h M=false:=by
 unfold R2 o9
 rw[List.filterMap_eq_nil_iff,List.any_eq_false]
 constructor
 ·intro z y hy e
  have:=z y hy
  rw[if_pos e] at this;injection this
 ·intro z y hy
  exact if_neg (z y hy)
theorem ajC {u:aq->R D} (hh:h<=20) (e:u ρ= .ok (bJ w h M)):cj 1 [] (fB u) (aV 0) (cL (bin (λ Z=> .ok (.int 2)) (λ ρ=>ak ρ 0) (zH false))) (λ ρ=>ak ρ 0) ρ= .ok (.lst (R2 w h M)):=
 Ks (c:=λ y=>row w (M y)) (l:=List.range h) (jf e) (by rw[List.length_range];exact dY hh) λ y Z=>HD rfl (bw (au rfl rfl adZ)) rfl
theorem ajD:dep (.lst (R2 w h M))<=40:=by
 have:∀l:List Nat,deps (l.filterMap λ y=>if tw w (M y)=true then some (row w (M y)) else none)<=1:=λ l=>by
  induction l with
  |nil=>exact Nat.zero_le _
  | cons y l ih=>
   by_cases q:tw w (M y)=true
   ·rw[List.filterMap_cons_some (b:=row w (M y)) (by rw[if_pos q]),TV]
    have d1:dep (row w (M y))<=1:=by
     unfold row
     first |rw [jr] |rw [jt]
     have:=zu (c:=λ x=>D.int (M y x)) (n:=0) (l:=List.range w) λ x Z=>by simp[jr,jt,uo,uq,ur,uw]
     exact Nat.lt_succ_of_le this
    exact alF d1 ih
   ·rw[List.filterMap_cons_none (by rw[if_neg q])];exact ih
 first |rw [jr] |rw [jt]
 have:=this (List.range h)
 unfold R2
 exact agw this
theorem ne_nil {u:aq->R D} (hh:h<=20) (e:u ρ= .ok (bJ w h M)):bin (cj 1 [] (fB u) (aV 0) (cL (bin (λ Z=> .ok (.int 2)) (λ ρ=>ak ρ 0) (zH false))) (λ ρ=>ak ρ 0)) (jN (λ Z=> .ok [])) jW ρ= .ok (.bl (o9 w h M)):=by
 refine au (ajC hh e) (iB rfl) ?_
 cases q:o9 w h M with
 |false=>rw[ad0.mpr q];rfl
 | true=>
  rw[jW,if_pos ajD]
  cases z:R2 w h M with
  |nil=>rw[ad0.mp z] at q;injection q
  |cons a r=>rfl
theorem free_eq (o:Ok w h f):eY [bJ w h f]= .ok (bJ w h λ Z Z=>0):=by
 have ju:=o.h2
 exact cH (bN (bx (aB (cQ (c:=λ y=>row w (f y)) (h:=λ Z=>row w λ Z=>0) (l:=List.range h) (jf rfl) (by rw[List.length_range];exact dY ju) λ y hy=>c7 rfl (au (eN (aB rfl)) (bx (aB rfl) qT) (mul_one o.w1 o.w2)))) rfl))
theorem mk0:Mk w h λ Z Z=>0:=λ Z Z=>⟨Int.le_refl 0,(by decide:(0:Int)<=2)⟩
end
end gZ
namespace gZ
open PySem PySem.Spec L2 Pu
section
variable {ns:List Int} {w h:Nat} {f M:Nat->Nat->Int} {T:Nat->Nat->Nat->Int} {m:Str} {s:Nat->Nat} {ρ:aq}
theorem ajE (h1:1<=h):cC (topC w h T M)=[]\/∃s,qb w h M s/\cC (topC w h T M)=[wS T M h s]:=by
 by_cases hC:topC w h T M=[]
 ·rw[hC];exact .inl rfl
 ·obtain⟨v,e,hv,_⟩:=p8 Nq hC
  obtain⟨s,q,rfl⟩:=aas h1 hv
  exact .inr ⟨s,q,e⟩
theorem ad1:lwD [wS T M h s]= .tup [.int (cost h T s),sm h s]:=by
 show D.tup [.int (cost h T s),.tup (((List.range h).map λ y=>((s y:Nat):Int)).map .int)]=_
 rw[List.map_map];rfl
theorem ad2:lsD [wS T M h s]=sm h s:=by
 show D.tup (((List.range h).map λ y=>((s y:Nat):Int)).map .int)=_
 rw[List.map_map];rfl
theorem aax {p q:aq->R Bool} (e1:p ρ= .ok true):Cw p q ρ= .ok true:=by rw[Cw,e1,R.bL,if_pos rfl]
theorem ajF {p:aq->R Bool} {b:aq->So} {n:Nat} (e:p (cX ρ)= .ok false):jk p b (n+1) ρ= .nx ρ:=by rw[Td,e]
theorem abj {p:aq->R Bool} {b:aq->So} {n:Nat} {ρ1:aq} {o:So} (e:p (cX ρ)= .ok true) (e1:b ρ= .nx ρ1) (e2:jk p b n ρ1=o):jk p b (n+1) ρ=o:=by rw[Td,e];simp only[e1,e2]
theorem Tn {p:aq->R Bool} {b:aq->So} {n:Nat} {d:D} (e:p (cX ρ)= .ok true) (e1:b ρ= .rt d):jk p b (n+1) ρ= .rt d:=by rw[Td,e];simp only[e1]
theorem abk (o:Ok w h f) {u:aq->R D} (e:u ρ= .ok (bJ w h f)):cL (bin (aF cM (ao (bin u (λ Z=> .ok (.int 0)) bZ) (λ Z=> .ok []))) (λ Z=> .ok (.int 1)) nW) ρ= .ok (decide (w=1)):=by
 refine bw (au (len0 o e) rfl ?_)
 rw[nF]
 congr 2
 exact decide_eq_decide.mpr ⟨λ z=>by exact alH z,λ z=>by exact alG z⟩
theorem ad3 (hh:h<=20) {e0 e1 e2 e3 e5 e6 e7 e8:Option Ent}:clT (cX [e0,e1,e2,e3,vA (bJ w h M),e5,e6,e7,e8])= .ok (o9 w h M):=bw (any_eq hh rfl)
section
variable (hm:m= "worth"\/m= "joins") (o:Ok w h f) (hM:Mk w h M)
include hm o
theorem abl:lY [tab w h (tbl m w h f),bJ w h M]= .ok (lwD (cC (topC w h (tbl m w h f) M))):=U8 o.h1 o.h2 o.w2
theorem afN (e:cC (topC w h (tbl m w h f) M)=[]) {e0 e1 e6 e7 e8:Option Ent} {acc:List D}:clB [e0,e1,vA (.str m),vA (bJ w h f),vA (bJ w h M),some (.lst acc),e6,e7,e8]= .rt .non:=by
 have el:=abl (M:=M) hm o
 rw[e] at el
 exact aM (bH (bF (aD (bF (aD rfl (aB rfl)) (Jq hm o)) (aB rfl)) el) rfl) (jX (eO (aax (bw (au rfl rfl rfl))) (bN rfl)))
theorem ahK (e:cC (topC w h (tbl m w h f) M)=[wS (tbl m w h f) M h s]) (w1:w=1) {e0 e1 e6 e7 e8:Option Ent} {acc:List D}:clB [e0,e1,vA (.str m),vA (bJ w h f),vA (bJ w h M),some (.lst acc),e6,e7,e8]= .rt .non:=by
 have el:=abl (M:=M) hm o
 rw[e,ad1] at el
 have ew:=abk o (ρ:=cX [e0,e1,vA (.str m),vA (bJ w h f),vA (bJ w h M),some (.lst acc),vA (.tup [.int (cost h (tbl m w h f) s),sm h s]),e7,e8]) (u:=λ ρ=>ak ρ 3) rfl
 rw[decide_eq_true w1] at ew
 exact aM (bH (bF (aD (bF (aD rfl (aB rfl)) (Jq hm o)) (aB rfl)) el) rfl) (jX (eO (sO (bw (au rfl rfl rfl)) ew) (bN rfl)))
theorem ad4 (q:qb w h M s) (e:cC (topC w h (tbl m w h f) M)=[wS (tbl m w h f) M h s]) (w1:w≠1) {e0 e1 e6 e7 e8:Option Ent} {acc:List D} (hl:acc.length<=1000):clB [e0,e1,vA (.str m),vA (bJ w h f),vA (bJ w h M),some (.lst acc),e6,e7,e8] =
  .nx [e0,e1,vA (.str m),vA (bJ (w - 1) h (less s f)),vA (bJ (w - 1) h (less s M)),some (.lst (acc++[sm h s])),vA (.tup [.int (cost h (tbl m w h f) s),sm h s]),vA (.int (cost h (tbl m w h f) s)),vA (sm h s)]:=by
 have el:=abl (M:=M) hm o
 rw[e,ad1] at el
 have ew:=abk o (ρ:=cX [e0,e1,vA (.str m),vA (bJ w h f),vA (bJ w h M),some (.lst acc),vA (.tup [.int (cost h (tbl m w h f) s),sm h s]),e7,e8]) (u:=λ ρ=>ak ρ 3) rfl
 rw[decide_eq_false w1] at ew
 refine aM (bH (bF (aD (bF (aD rfl (aB rfl)) (Jq hm o)) (aB rfl)) el) rfl) (aM (cZ (sO (bw (au rfl rfl rfl)) ew) rfl) (aM (bH rfl rfl) (aM (Ej (ds:=acc) (d:=sm h s) rfl rfl (by exact aaG hl)) ?_)))
 exact uJ (bF (aD rfl (aB rfl)) (Ko q.sm o.h2 o.w2)) (bF (aD rfl (aB rfl)) (Ko q.sm o.h2 o.w2))
omit hm o in
theorem ad5 (hh:h<=20) {e0 e2 e3 e4:Option Ent}:duT (cX [e0,vA (bJ w h M),e2,e3,e4])= .ok (o9 w h M):=bw (ne_nil hh rfl)
theorem afO (hw:w<=4) (hh:h<=4) (e:cC (topC w h (tbl m w h f) M)=[]) {e4:Option Ent} {acc:List D}:duB [vA (bJ w h f),vA (bJ w h M),vA (.str m),some (.lst acc),e4]= .rt .non:=by
 have el:=Jr (M:=M) hm o hw hh
 rw[e] at el
 exact aM (bH (bF (aD rfl (aD rfl (aB rfl))) el) rfl) (jX (eO (aax (bw (au rfl rfl rfl))) (bN rfl)))
theorem ahL (hw:w<=4) (hh:h<=4) (e:cC (topC w h (tbl m w h f) M)=[wS (tbl m w h f) M h s]) (w1:w=1) {e4:Option Ent} {acc:List D}:duB [vA (bJ w h f),vA (bJ w h M),vA (.str m),some (.lst acc),e4]= .rt .non:=by
 have el:=Jr (M:=M) hm o hw hh
 rw[e,ad2] at el
 have ew:=abk o (ρ:=cX [vA (bJ w h f),vA (bJ w h M),vA (.str m),some (.lst acc),vA (sm h s)]) (u:=λ ρ=>ak ρ 0) rfl
 rw[decide_eq_true w1] at ew
 exact aM (bH (bF (aD rfl (aD rfl (aB rfl))) el) rfl) (jX (eO (sO (bw (au rfl rfl rfl)) ew) (bN rfl)))
theorem ad6 (hw:w<=4) (hh:h<=4) (q:qb w h M s) (e:cC (topC w h (tbl m w h f) M)=[wS (tbl m w h f) M h s]) (w1:w≠1) {e4:Option Ent} {acc:List D} (hl:acc.length<=1000):duB [vA (bJ w h f),vA (bJ w h M),vA (.str m),some (.lst acc),e4] =
  .nx [vA (bJ (w - 1) h (less s f)),vA (bJ (w - 1) h (less s M)),vA (.str m),some (.lst (acc++[sm h s])),vA (sm h s)]:=by
 have el:=Jr (M:=M) hm o hw hh
 rw[e,ad2] at el
 have ew:=abk o (ρ:=cX [vA (bJ w h f),vA (bJ w h M),vA (.str m),some (.lst acc),vA (sm h s)]) (u:=λ ρ=>ak ρ 0) rfl
 rw[decide_eq_false w1] at ew
 refine aM (bH (bF (aD rfl (aD rfl (aB rfl))) el) rfl) (aM (cZ (sO (bw (au rfl rfl rfl)) ew) rfl) (aM (Ej (ds:=acc) (d:=sm h s) rfl rfl (by exact aaG hl)) ?_))
 exact uJ (bF (aD rfl (aB rfl)) (Qs q.sm o.h2 o.w2)) (bF (aD rfl (aB rfl)) (Qs q.sm o.h2 o.w2))
end
theorem afP (h1:1<=h) (w1:1<=w) (a:∀x < w,M 0 x=2):o9 w h M=true:=by
 unfold o9 tw
 rw[List.any_eq_true]
 refine⟨0,List.mem_range.mpr h1,?_⟩
 rw[List.any_eq_true]
 exact⟨0,List.mem_range.mpr w1,decide_eq_true (a 0 w1)⟩
noncomputable def WhK (m:Str) (w h:Nat) (f M:Nat->Nat->Int):Option (List (Nat->Nat))->Prop
 | none=>(∀(n:Nat) (acc:List D) (e0 e1 e6 e7 e8:Option Ent),w < n->acc.length+w<=900->jk clT clB n [e0,e1,vA (.str m),vA (bJ w h f),vA (bJ w h M),some (.lst acc),e6,e7,e8]= .rt .non)/\
   ∀(n:Nat) (acc:List D) (e4:Option Ent),w < n->acc.length+w<=900->jk duT duB n [vA (bJ w h f),vA (bJ w h M),vA (.str m),some (.lst acc),e4]= .rt .non
 | some ss=>(∀(n:Nat) (acc:List D) (e0 e1 e6 e7 e8:Option Ent),w < n->acc.length+w<=900->∃z3 z4 z6 z7 z8,jk clT clB n [e0,e1,vA (.str m),vA (bJ w h f),vA (bJ w h M),some (.lst acc),e6,e7,e8]= .nx [e0,e1,vA (.str m),z3,z4,some (.lst (acc++ss.map (sm h))),z6,z7,z8])/\
   ∀(n:Nat) (acc:List D) (e4:Option Ent),w < n->acc.length+w<=900->∃z0 z1 z4,jk duT duB n [vA (bJ w h f),vA (bJ w h M),vA (.str m),some (.lst acc),e4]= .nx [z0,z1,vA (.str m),some (.lst (acc++ss.map (sm h))),z4]
theorem zR (hm:m= "worth"\/m= "joins") (hh:h<=4):∀{w:Nat} {f M:Nat->Nat->Int},w<=4->Ok w h f->Mk w h M->∃res,WhK m w h f M res/\(o9 w h M=false->res=some [])/\((∀x < w,M 0 x=2)->res=none)
 |0,f,M,hw,o,hM=>absurd o.w1 (by exact Nat.lt_irrefl _)
 | k + 1, f, M,hw,o,hM=>by
  by_cases ht:o9 (k+1) h M=true
  ·have et : ∀(e0 e1 e5 e6 e7 e8:Option Ent),clT (cX [e0,e1,vA (.str m),vA (bJ (k+1) h f),vA (bJ (k+1) h M),e5,e6,e7,e8])= .ok true:=λ e0 e1 e5 e6 e7 e8=>by rw[ad3 o.h2,ht]
   have eu:∀(e3 e4:Option Ent),duT (cX [vA (bJ (k+1) h f),vA (bJ (k+1) h M),vA (.str m),e3,e4])= .ok true:=λ e3 e4=>by rw[ad5 o.h2,ht]
   have hn:o9 (k+1) h M=false->∀r:Option (List (Nat->Nat)),r=some []:=λ z=>by rw[ht] at z;injection z
   rcases ajE (w:=k+1) (T:=tbl m (k+1) h f) (M:=M) o.h1 with e |⟨s,q,e⟩
   ·refine⟨none,⟨λ n acc e0 e1 e6 e7 e8 hn ha=>?_,λ n acc e4 hn ha=>?_⟩,λ z=>hn z _,λ Z=>rfl⟩
    ·obtain⟨n,rfl⟩:∃j,n=j+1:=⟨n - 1,by exact rT hn⟩
     exact Tn (et ..) (afN hm o e)
    ·obtain⟨n,rfl⟩:∃j,n=j+1:=⟨n - 1,by exact rT hn⟩
     exact Tn (eu ..) (afO hm o hw hh e)
   ·by_cases w1:k+1=1
    ·refine⟨none,⟨λ n acc e0 e1 e6 e7 e8 hn ha=>?_,λ n acc e4 hn ha=>?_⟩,λ z=>hn z _,λ Z=>rfl⟩
     ·obtain⟨n,rfl⟩:∃j,n=j+1:=⟨n - 1,by exact rT hn⟩
      exact Tn (et ..) (ahK hm o e w1)
     ·obtain⟨n,rfl⟩:∃j,n=j+1:=⟨n - 1,by exact rT hn⟩
      exact Tn (eu ..) (ahL hm o hw hh e w1)
    ·obtain⟨res,hr,_,r3⟩:=zR hm hh (w:=k) (f:=less s f) (M:=less s M) (by exact z0e hw) (o.less (by exact amQ w1)) λ y x=>by
      unfold less
      split
      ·exact hM _ _
      ·exact hM _ _
     cases res with
     | none=>
      obtain⟨r1,r2⟩:=hr
      refine⟨none,⟨λ n acc e0 e1 e6 e7 e8 hn ha=>?_,λ n acc e4 hn ha=>?_⟩,λ z=>hn z _,λ Z=>rfl⟩
      ·obtain⟨n,rfl⟩:∃j,n=j+1:=⟨n - 1,by exact rT hn⟩
       exact abj (et ..) (ad4 hm o q e w1 (by exact S6 ha)) (r1 _ _ _ _ _ _ _ (by exact Nat.le_of_lt_succ hn) (by simp;exact S7 ha))
      ·obtain⟨n,rfl⟩:∃j,n=j+1:=⟨n - 1,by exact rT hn⟩
       exact abj (eu ..) (ad6 hm o hw hh q e w1 (by exact S6 ha)) (r2 _ _ _ (by exact Nat.le_of_lt_succ hn) (by simp;exact S7 ha))
     | some ss=>
      obtain⟨r1,r2⟩:=hr
      refine⟨some (s::ss),⟨λ n acc e0 e1 e6 e7 e8 hn ha=>?_,λ n acc e4 hn ha=>?_⟩,λ z=>hn z _,λ a=>?_⟩
      ·obtain⟨n,rfl⟩:∃j,n=j+1:=⟨n - 1,by exact rT hn⟩
       obtain⟨z3,z4,z6,z7,z8,er⟩:=r1 n (acc++[sm h s]) e0 e1 (vA (.tup [.int (cost h (tbl m (k+1) h f) s),sm h s])) (vA (.int (cost h (tbl m (k+1) h f) s))) (vA (sm h s)) (by exact Nat.le_of_lt_succ hn) (by simp;exact S7 ha)
       refine⟨z3,z4,z6,z7,z8,abj (et ..) (ad4 hm o q e w1 (by exact S6 ha)) (er.trans ?_)⟩
       rw[List.map_cons,List.append_assoc];rfl
      ·obtain⟨n,rfl⟩:∃j,n=j+1:=⟨n - 1,by exact rT hn⟩
       obtain⟨z0,z1,z4,er⟩:=r2 n (acc++[sm h s]) (vA (sm h s)) (by exact Nat.le_of_lt_succ hn) (by simp;exact S7 ha)
       refine⟨z0,z1,z4,abj (eu ..) (ad6 hm o hw hh q e w1 (by exact S6 ha)) (er.trans ?_)⟩
       rw[List.map_cons,List.append_assoc];rfl
      ·have:=r3 λ x hx=>by
        unfold less
        split
        ·exact a x (by exact Nat.lt_succ_of_lt hx)
        ·exact a (x+1) (by exact Nat.lt_succ_of_le hx)
       injection this
  ·have ht:o9 (k+1) h M=false:=by cases z:o9 (k+1) h M with |false=>rfl |true=>exact absurd z ht
   refine⟨some [],⟨λ n acc e0 e1 e6 e7 e8 hn ha=>?_,λ n acc e4 hn ha=>?_⟩,λ Z=>rfl,λ a=>?_⟩
   ·obtain⟨n,rfl⟩:∃j,n=j+1:=⟨n - 1,by exact rT hn⟩
    rw[List.map_nil,List.append_nil]
    exact⟨_,_,_,_,_,ajF (by rw[ad3 o.h2,ht])⟩
   ·obtain⟨n,rfl⟩:∃j,n=j+1:=⟨n - 1,by exact rT hn⟩
    rw[List.map_nil,List.append_nil]
    exact⟨_,_,_,ajF (by rw[ad5 o.h2,ht])⟩
   ·rw[afP o.h1 o.w1 a] at ht;injection ht
noncomputable def afQ (h:Nat):Option (List (Nat->Nat))->D
 |none=> .non
 |some ss=> .lst (ss.map (sm h))
theorem Bg {res:Option (List (Nat->Nat))} (hm:m= "worth"\/m= "joins") (o:Ok w h f) (hM:Mk w h M) (hr:WhK m w h f M res):fW [bJ w h f,bJ w h M,.str m]= .ok (afQ h res):=by
 have ow:=o.w2
 cases res with
 | some ss=>
  obtain⟨r1,_⟩:=hr
  obtain⟨z3,z4,z6,z7,z8,e⟩:=r1 64 [] (vA (bJ w h f)) (vA (bJ w h M)) none none none (by exact S8 ow) (by simp;exact S9 ow)
  exact p7 (aM (zy (bF (aB rfl) (Nj o))) (aM (zy (bF (aB rfl) (zM hm))) (aM (uJ rfl (bF (aD rfl (aB rfl)) (Ql o hM))) (aM (lZ rfl) (aM e (bN rfl))))))
 | none=>
  obtain⟨r1,_⟩:=hr
  have e:=r1 64 [] (vA (bJ w h f)) (vA (bJ w h M)) none none none (by exact S8 ow) (by simp;exact S9 ow)
  exact p7 (aM (zy (bF (aB rfl) (Nj o))) (aM (zy (bF (aB rfl) (zM hm))) (aM (uJ rfl (bF (aD rfl (aB rfl)) (Ql o hM))) (aM (lZ rfl) (jX e)))))
theorem ad7 {res:Option (List (Nat->Nat))} (o:Ok w h f) (hr:WhK m w h f M res):iH [bJ w h f,bJ w h M,.str m]= .ok (afQ h res):=by
 have ow:=o.w2
 cases res with
 | some ss=>
  obtain⟨_,r2⟩:=hr
  obtain⟨z0,z1,z4,e⟩:=r2 64 [] none (by exact S8 ow) (by simp;exact S9 ow)
  exact cH (aM (lZ (ds:=[]) rfl) (aM e (bN rfl)))
 | none=>
  obtain⟨_,r2⟩:=hr
  have e:=r2 64 [] none (by exact S8 ow) (by simp;exact S9 ow)
  exact cH (aM (lZ (ds:=[]) rfl) (jX e))
theorem aay {res:Option (List (Nat->Nat))}:dep (afQ h res)<=40:=by
 cases res with
 |none=>exact Nat.zero_le _
 | some ss=>
  show dep (.lst (ss.map (sm h)))<=40
  first |rw [jr] |rw [jt]
  have d1:∀s:Nat->Nat,dep (sm h s)<=1:=λ s=>by
   unfold sm row
   first |rw [jr] |rw [jt]
   have:=zu (c:=λ y=>D.int ((s y:Nat):Int)) (n:=0) (l:=List.range h) λ x Z=>by simp[jr,jt,uo,uq,ur,uw]
   exact Nat.succ_le_succ this
  have:=zu (c:=sm h) (n:=1) (l:=ss) λ s Z=>d1 s
  exact agw this
end
end gZ
namespace gZ
open PySem PySem.Spec L2 Pu
section
variable {ns:List Int} {w h:Nat} {f M:Nat->Nat->Int} {m:Str} {ρ:aq}
noncomputable def stM (x0 y0:Nat) (M:Nat->Nat->Int):Nat->Nat->Int:=λ y x=>if y=y0/\x=x0 then 2 else M y x
theorem Mk.st (hM:Mk w h M) {x0 y0:Nat}:Mk w h (stM x0 y0 M):=λ y x=>by
 unfold stM
 split
 ·exact⟨by decide,by decide⟩
 ·exact hM y x
theorem Ek {F:Nat->D} {a:D} {n k:Nat} (hk:k < n):(((List.range n).map F).take k++[a])++((List.range n).map F).drop (k+1)=(List.range n).map λ i=>if i=k then a else F i:=by
 rw[List.append_assoc]
 have e:=List.set_eq_take_append_cons_drop (l:=(List.range n).map F) (i:=k) (a:=a)
 rw[if_pos (by simpa using hk)] at e
 refine Eq.trans e.symm (List.ext_getElem (by simp) λ i h1 h2=>?_)
 rw[List.getElem_set]
 simp only[List.getElem_map,List.getElem_range]
 by_cases z:k=i
 ·rw[if_pos z,if_pos z.symm]
 ·rw[if_neg z,if_neg λ q=>z q.symm]
theorem ahM (o:Ok w h f) {x0 y0:Nat} (hx:x0 < w) (hy:y0 < h) {e0 e1 e3:Option Ent}:(bin (bin (dG (λ ρ=>ak ρ 2) (λ Z=> .ok none) (λ ρ=>((λ ρ=>ak ρ 4) ρ).bind ou)) (dh (ao (bin (bin (dG (bin (λ ρ=>ak ρ 2) (λ ρ=>ak ρ 4) bZ) (λ Z=> .ok none) (λ ρ=>((λ ρ=>ak ρ 5) ρ).bind ou)) (dh (ao (λ Z=> .ok (.int 2)) (λ Z=> .ok []))) cF) (dG (bin (λ ρ=>ak ρ 2) (λ ρ=>ak ρ 4) bZ) (λ ρ=>((bin (λ ρ=>ak ρ 5) (λ Z=> .ok (.int 1)) cF) ρ).bind ou) (λ Z=> .ok none)) cF) (λ Z=> .ok []))) cF) (dG (λ ρ=>ak ρ 2) (λ ρ=>((bin (λ ρ=>ak ρ 4) (λ Z=> .ok (.int 1)) cF) ρ).bind ou) (λ Z=> .ok none)) cF) [e0,e1,vA (bJ w h M),e3,vA (.int (y0:Int)),vA (.int (x0:Int))]= .ok (bJ w h (stM x0 y0 M)):=by
 have ow:=o.w2
 have oh:=o.h2
 have hix:bZ (bJ w h M) (.int (y0:Int))= .ok (row w (M y0)):=pQ (i:=y0) (by rw[List.getElem?_map,List.getElem?_range hy];rfl)
 have hr:(D.tup ((((List.range w).map λ x=>D.int (M y0 x)).take x0++[D.int 2])++((List.range w).map λ x=>D.int (M y0 x)).drop (x0+1)))=row w (λ x=>if x=x0 then 2 else M y0 x):=by
  rw[Ek hx]
  unfold row
  congr 1
  refine List.map_congr_left λ x Z=>?_
  show (if x=x0 then D.int 2 else D.int (M y0 x))=D.int (if x=x0 then 2 else M y0 x)
  split <;> rfl
 have er:(bin (bin (dG (bin (λ ρ=>ak ρ 2) (λ ρ=>ak ρ 4) bZ) (λ Z=> .ok none) (λ ρ=>((λ ρ=>ak ρ 5) ρ).bind ou)) (dh (ao (λ Z=> .ok (.int 2)) (λ Z=> .ok []))) cF) (dG (bin (λ ρ=>ak ρ 2) (λ ρ=>ak ρ 4) bZ) (λ ρ=>((bin (λ ρ=>ak ρ 5) (λ Z=> .ok (.int 1)) cF) ρ).bind ou) (λ Z=> .ok none)) cF) [e0,e1,vA (bJ w h M),e3,vA (.int (y0:Int)),vA (.int (x0:Int))]= .ok (row w (λ x=>if x=x0 then 2 else M y0 x)):=
  au (au (Nm (n:=x0) (au rfl rfl hix) rfl (by simp;exact z0e hx)) (eN (aB rfl)) (nD (by simp;exact agF ow))) (wZ (n:=x0+1) (au rfl rfl hix) rfl (by simp;assumption)) ((nD (by simp;exact agG ow)).trans (congrArg R.ok hr))
 refine au (au (Nm (n:=y0) (ds:=(List.range h).map λ y=>row w (M y)) rfl rfl (by simp;exact z0e hy)) (eN (aB er)) (nD (by simp;exact agF oh))) (wZ (n:=y0+1) (ds:=(List.range h).map λ y=>row w (M y)) rfl rfl (by simp;assumption)) ((nD (by simp;exact agG oh)).trans ?_)
 rw[Ek hy]
 show R.ok (D.tup _)=R.ok (D.tup _)
 congr 2
 refine List.map_congr_left λ y Z=>?_
 unfold stM
 by_cases z:y=y0
 ·subst z
  rw[if_pos rfl]
  congr 1
  funext x
  by_cases z:x=x0
  ·rw[if_pos z,if_pos ⟨rfl,z⟩]
  ·rw[if_neg z,if_neg λ q=>z q.2]
 ·rw[if_neg z]
  congr 1
  funext x
  rw[if_neg λ q=>z q.1]
theorem afR (o:Ok w h f) {e0 e2 e3 e4 e5:Option Ent}:(bin (dh (ao (bin (dh (ao (λ Z=> .ok (.int 2)) (λ Z=> .ok []))) (aF cM (ao (bin (λ ρ=>ak ρ 1) (λ Z=> .ok (.int 0)) bZ) (λ Z=> .ok []))) vd) (λ Z=> .ok []))) (dG (aF (bh eY 1) (ao (λ ρ=>ak ρ 1) (λ Z=> .ok []))) (λ ρ=>(((λ Z=> .ok (.int 1)):aq->R D) ρ).bind ou) (λ Z=> .ok none)) cF) [e0,vA (bJ w h f),e2,e3,e4,e5]= .ok (bJ w h λ y Z=>if y=0 then 2 else 0):=by
 have ow:=o.w2
 have oh:=o.h2
 have h1:=o.h1
 refine au (eN (aB (au (eN (aB rfl)) (len0 o rfl) (mul_one o.w1 o.w2)))) (wZ (n:=1) (ds:=(List.range h).map λ y=>row w λ Z=>0) (bF (aB rfl) (free_eq o)) rfl (by simp;assumption)) ((nD (by simp;exact agC oh)).trans ?_)
 have e:=Ek (F:=λ y=>row w λ Z=>0) (a:=row w λ Z=>2) (n:=h) (k:=0) (by assumption)
 rw[List.take_zero,List.nil_append] at e
 refine (congrArg (λ l=>R.ok (D.tup l)) e).trans ?_
 show R.ok (D.tup _)=R.ok (D.tup _)
 congr 2
 refine List.map_congr_left λ y Z=>?_
 by_cases z:y=0
 ·rw[if_pos z];show row w (λ Z=>2)=row w (λ Z=>if y=0 then 2 else 0);rw[if_pos z]
 ·rw[if_neg z];show row w (λ Z=>0)=row w (λ Z=>if y=0 then 2 else 0);rw[if_neg z]
theorem Qt (hw:w<=4) (hh:h<=4) (hm:m= "worth"\/m= "joins") (o:Ok w h f) (hM:Mk w h M) {t:aq->So} {e0 e4 e5:Option Ent}
  (ht:t=(bA (gj (cL (bin (oY fW 3 1 [.inl 0] (ao (λ ρ=>ak ρ 1) (ao (λ ρ=>ak ρ 2) (λ Z=> .ok []))) (ao (λ ρ=>ak ρ 3) (λ Z=> .ok []))) (aF (bh iH 3) (ao (λ ρ=>ak ρ 1) (ao (λ ρ=>ak ρ 2) (ao (λ ρ=>ak ρ 3) (λ Z=> .ok []))))) jW)) (retS (λ Z=> .ok (.bl false))) So.nx) (bA (gj (cL (bin (oY fW 3 0 [.inr (.str "worth")] (ao (λ ρ=>ak ρ 1) (ao (λ ρ=>ak ρ 2) (λ Z=> .ok []))) (λ Z=> .ok [])) (aF (bh iH 3) (ao (λ ρ=>ak ρ 1) (ao (λ ρ=>ak ρ 2) (ao (λ Z=> .ok (.str "worth")) (λ Z=> .ok []))))) jW)) (retS (λ Z=> .ok (.bl false))) So.nx) (bA (gj (cL (bin (oY fW 3 0 [.inr (.str "worth")] (ao (λ ρ=>ak ρ 1) (ao (aF (bh eY 1) (ao (λ ρ=>ak ρ 1) (λ Z=> .ok []))) (λ Z=> .ok []))) (λ Z=> .ok [])) (jN (λ Z=> .ok [])) jW)) (retS (λ Z=> .ok (.bl false))) So.nx) (retS (bin (oY fW 3 0 [.inr (.str "worth")] (ao (λ ρ=>ak ρ 1) (ao (bin (dh (ao (bin (dh (ao (λ Z=> .ok (.int 2)) (λ Z=> .ok []))) (aF cM (ao (bin (λ ρ=>ak ρ 1) (λ Z=> .ok (.int 0)) bZ) (λ Z=> .ok []))) vd) (λ Z=> .ok []))) (dG (aF (bh eY 1) (ao (λ ρ=>ak ρ 1) (λ Z=> .ok []))) (λ ρ=>(((λ Z=> .ok (.int 1)):aq->R D) ρ).bind ou) (λ Z=> .ok none)) cF) (λ Z=> .ok []))) (λ Z=> .ok [])) (λ Z=> .ok .non) isD)))))):
  t [e0,vA (bJ w h f),vA (bJ w h M),vA (.str m),e4,e5]= .rt (.bl true):=by
 subst ht
 obtain⟨r1,q1,_,_⟩:=zR hm hh hw o hM
 obtain⟨r2,q2,_,_⟩:=zR (m:= "worth") (.inl rfl) hh hw o hM
 obtain⟨r3,q3,z3,_⟩:=zR (m:= "worth") (M:=λ Z Z=>0) (.inl rfl) hh hw o mk0
 obtain⟨r4,q4,_,z4⟩:=zR (m:= "worth") (M:=λ y Z=>if y=0 then 2 else 0) (.inl rfl) hh hw o λ y x=>by
  show 0<=(if y=0 then (2:Int) else 0)/\(if y=0 then (2:Int) else 0)<=2
  split
  ·exact⟨by decide,by decide⟩
  ·exact⟨by decide,by decide⟩
 have n3:r3=some []:=z3 (by
  unfold o9 tw
  rw[List.any_eq_false]
  intro y Z
  rw[Bool.not_eq_true,List.any_eq_false]
  intro x Z
  exact (by decide:¬decide ((0:Int)=2)=true))
 have n4:r4=none:=z4 λ x Z=>rfl
 subst n3 n4
 refine aM (cZ (bw (au (Bb (aD rfl (aB rfl)) (aB rfl) (Bg hm o hM q1)) (bF (aD rfl (aD rfl (aB rfl))) (ad7 o q1)) (Pu.qI rfl aay))) rfl) ?_
 refine aM (cZ (bw (au (Bb (aD rfl (aB rfl)) rfl (Bg (.inl rfl) o hM q2)) (bF (aD rfl (aD rfl (aB rfl))) (ad7 o q2)) (Pu.qI rfl aay))) rfl) ?_
 refine aM (cZ (bw (au (Bb (aD rfl (aB (bF (aB rfl) (free_eq o)))) rfl (Bg (.inl rfl) o mk0 q3)) (iB rfl) rfl)) rfl) ?_
 exact bN (au (Bb (aD rfl (aB (afR o))) rfl (Bg (.inl rfl) o (λ y x=>by
  show 0<=(if y=0 then (2:Int) else 0)/\(if y=0 then (2:Int) else 0)<=2
  split
  ·exact⟨by decide,by decide⟩
  ·exact⟨by decide,by decide⟩) q4)) rfl rfl)
theorem afS (ns:List Int) (hns:ns.length<=63):Kh [.lst (ns.map .int)]= .ok (.bl true):=by
 have hn:ns.length<=1000000:=by exact amR hns
 obtain⟨w,h,f,e1,o,hw,hh⟩:=ajA (ns:=ns) hn
 obtain⟨M,e2,hM⟩:=afM (ns:=ns) hn o
 obtain⟨m,hm,e3⟩:=adY (ns:=ns) hn
 have w1:=o.w1
 have h1:=o.h1
 have h4:h<=4:=by exact Nat.le_succ_of_le hh
 obtain⟨d1,_,_⟩:=pW (k:=61) (m:=3) hn (by exact z0a _) (by exact z0a _)
 refine p7 (aM (bH (bF (aD rfl (aD rfl (aD rfl (aB rfl)))) e1) rfl) ?_)
 refine aM (uJ (bF (aD rfl (aD rfl (aB rfl))) e2) (bF (aD rfl (aB rfl)) e3)) ?_
 by_cases z:dr ns 61 3=0
 ·obtain⟨y1,y2,y3⟩:=pW (k:=62) (m:=(h:Int)) hn (by exact z0a _) (by exact Int.ofNat_lt.mpr h1)
  obtain⟨x1,x2,x3⟩:=pW (k:=63) (m:=(w:Int)) hn (by exact amS) (by exact amT w1)
  obtain⟨x0,hx⟩:=Int.eq_ofNat_of_zero_le x2
  obtain⟨y0,hy⟩:=Int.eq_ofNat_of_zero_le y2
  rw[hx] at x1
  rw[hy] at y1
  have ex:x0 < w:=by exact agH x3 hx
  have ey:y0 < h:=by exact agH y3 hy
  refine aM (ρ':=[vA (.lst (ns.map .int)),vA (bJ w h f),vA (bJ w h (stM x0 y0 M)),vA (.str m),vA (.int (y0:Int)),vA (.int (x0:Int))]) (eO (bw (au (bF (aD rfl (aD rfl (aB rfl))) d1) rfl (by rw[nF,decide_eq_true z]))) ?_) (Qt hw h4 hm o hM.st rfl)
  exact aM (uJ (bF (aD rfl (aD rfl (aB (bx (aB rfl) qU)))) y1) (bF (aD rfl (aD rfl (aB (len0 o rfl)))) x1)) (bH (ahM o ex ey) rfl)
 ·exact aM (cZ (bw (au (bF (aD rfl (aD rfl (aB rfl))) d1) rfl (by rw[nF,decide_eq_false z]))) rfl) (Qt hw h4 hm o hM rfl)
end
end gZ
namespace gZ
open PySem PySem.Spec L2 Pu
open PyProof.Rows hiding St
theorem vJ {us:List Value} {n:Nat} (hl:us.length=n+1):∃a u,us=a::u/\u.length=n:=by
 cases us with
 |nil=>injection hl
 |cons a u=>exact⟨a,u,rfl,Nat.succ.inj hl⟩
theorem vK {F:FuncData} {ps:List Str} {us:List Value} (hl:us.length=1) (h:∀a0,bindArgs F ⟨[a0],[]⟩=pure (ps.zip [a0])):bindArgs F ⟨us,[]⟩=pure (ps.zip us):=by
 obtain⟨a0,u1,rfl,h1⟩:=vJ hl
 cases List.eq_nil_of_length_eq_zero h1
 exact h a0
theorem zT {F:FuncData} {ps:List Str} {us:List Value} (hl:us.length=2) (h:∀a0 a1,bindArgs F ⟨[a0,a1],[]⟩=pure (ps.zip [a0,a1])):bindArgs F ⟨us,[]⟩=pure (ps.zip us):=by
 obtain⟨a0,u1,rfl,h1⟩:=vJ hl
 obtain⟨a1,u2,rfl,h2⟩:=vJ h1
 cases List.eq_nil_of_length_eq_zero h2
 exact h a0 a1
theorem El {F:FuncData} {ps:List Str} {us:List Value} (hl:us.length=3) (h:∀a0 a1 a2,bindArgs F ⟨[a0,a1,a2],[]⟩=pure (ps.zip [a0,a1,a2])):bindArgs F ⟨us,[]⟩=pure (ps.zip us):=by
 obtain⟨a0,u1,rfl,h1⟩:=vJ hl
 obtain⟨a1,u2,rfl,h2⟩:=vJ h1
 obtain⟨a2,u3,rfl,h3⟩:=vJ h2
 cases List.eq_nil_of_length_eq_zero h3
 exact h a0 a1 a2
theorem lk4 {F:FuncData} {ps:List Str} {us:List Value} (hl:us.length=4) (h:∀a0 a1 a2 a3,bindArgs F ⟨[a0,a1,a2,a3],[]⟩=pure (ps.zip [a0,a1,a2,a3])):bindArgs F ⟨us,[]⟩=pure (ps.zip us):=by
 obtain⟨a0,u1,rfl,h1⟩:=vJ hl
 obtain⟨a1,u2,rfl,h2⟩:=vJ h1
 obtain⟨a2,u3,rfl,h3⟩:=vJ h2
 obtain⟨a3,u4,rfl,h4⟩:=vJ h3
 cases List.eq_nil_of_length_eq_zero h4
 exact h a0 a1 a2 a3
theorem lk5 {F:FuncData} {ps:List Str} {us:List Value} (hl:us.length=5) (h:∀a0 a1 a2 a3 a4,bindArgs F ⟨[a0,a1,a2,a3,a4],[]⟩=pure (ps.zip [a0,a1,a2,a3,a4])):bindArgs F ⟨us,[]⟩=pure (ps.zip us):=by
 obtain⟨a0,u1,rfl,h1⟩:=vJ hl
 obtain⟨a1,u2,rfl,h2⟩:=vJ h1
 obtain⟨a2,u3,rfl,h3⟩:=vJ h2
 obtain⟨a3,u4,rfl,h4⟩:=vJ h3
 obtain⟨a4,u5,rfl,h5⟩:=vJ h4
 cases List.eq_nil_of_length_eq_zero h5
 exact h a0 a1 a2 a3 a4
noncomputable def top (i:Nat):Stmt:=PySem.Challenge.pw_seamhall_k34_cleared.main.body.getD i (.Pass ⟨0,0,0,0⟩)
noncomputable abbrev fH:Stmt:=top 45
theorem dJ:FnScope ["_law_script","_law_k","_law_many","_law_cell","_law_turn","_law_rest"] ["_law_script","_law_k","_law_many"] (defScope fH):=⟨rfl,rfl,rfl,by decide +kernel,rfl,by decide +kernel,by decide +kernel⟩
noncomputable abbrev jF:Stmt:=top 49
theorem abm:FnScope ["_law_picture_here","_law_x","_law_y"] ["_law_picture_here","_law_x","_law_y"] (defScope jF):=⟨rfl,rfl,rfl,by decide +kernel,rfl,by decide +kernel,by decide +kernel⟩
noncomputable abbrev gB:Stmt:=top 50
theorem vL:FnScope ["_law_picture_here","_law_mode","_law_x","_law_y","_law_before","_law_found"] ["_law_picture_here","_law_mode","_law_x","_law_y","_law_before"] (defScope gB):=⟨rfl,rfl,rfl,by decide +kernel,rfl,by decide +kernel,by decide +kernel⟩
noncomputable abbrev gC:Stmt:=top 51
theorem Em:FnScope ["_law_picture_here","_law_mode","_law_seam","_law_befores"] ["_law_picture_here","_law_mode","_law_seam"] (defScope gC):=⟨rfl,rfl,rfl,by decide +kernel,rfl,by decide +kernel,by decide +kernel⟩
noncomputable abbrev fJ:Stmt:=top 54
theorem QL:FnScope ["_law_tags","_law_seam","_law_sign"] ["_law_tags","_law_seam","_law_sign"] (defScope fJ):=⟨rfl,rfl,rfl,by decide +kernel,rfl,by decide +kernel,by decide +kernel⟩
noncomputable abbrev gD:Stmt:=top 52
theorem jo:FnScope ["_law_broad","_law_tall","_law_found","_law_y","_law_more","_law_way"] ["_law_broad","_law_tall"] (defScope gD):=⟨rfl,rfl,rfl,by decide +kernel,rfl,by decide +kernel,by decide +kernel⟩
noncomputable abbrev gF:Stmt:=top 55
theorem mX:FnScope ["_law_picture_here","_law_mode","_law_tags","_law_best_here","_law_way","_law_here"] ["_law_picture_here","_law_mode","_law_tags"] (defScope gF):=⟨rfl,rfl,rfl,by decide +kernel,rfl,by decide +kernel,by decide +kernel⟩
noncomputable abbrev iI:Stmt:=top 56
theorem Yg:FnScope ["_law_rows","_law_seam"] ["_law_rows","_law_seam"] (defScope iI):=⟨rfl,rfl,rfl,by decide +kernel,rfl,by decide +kernel,by decide +kernel⟩
noncomputable abbrev iJ:Stmt:=top 58
theorem su:FnScope ["_law_picture_here","_law_tags","_law_mode","_law_seams","_law_seam"] ["_law_picture_here","_law_tags","_law_mode"] (defScope iJ):=⟨rfl,rfl,rfl,by decide +kernel,rfl,by decide +kernel,by decide +kernel⟩
noncomputable abbrev gG:Stmt:=top 53
theorem Vk:FnScope ["_law_picture_here"] ["_law_picture_here"] (defScope gG):=⟨rfl,rfl,rfl,by decide +kernel,rfl,by decide +kernel,by decide +kernel⟩
noncomputable abbrev d9:Stmt:=top 57
theorem Ny:FnScope ["_law_script","_law_at_here"] ["_law_script","_law_at_here"] (defScope d9):=⟨rfl,rfl,rfl,by decide +kernel,rfl,by decide +kernel,by decide +kernel⟩
noncomputable abbrev fK:Stmt:=top 48
theorem lN:FnScope ["_law_script","_law_at_here","_law_picture_here","_law_rows","_law_signs_here","_law_y","_law_row","_law_here"] ["_law_script","_law_at_here","_law_picture_here"] (defScope fK):=⟨rfl,rfl,rfl,by decide +kernel,rfl,by decide +kernel,by decide +kernel⟩
noncomputable abbrev dO:Stmt:=top 46
theorem qd:FnScope ["_law_script","_law_at_here","_law_broad","_law_tall","_law_most","_law_rows","_law_y"] ["_law_script","_law_at_here","_law_broad","_law_tall"] (defScope dO):=⟨rfl,rfl,rfl,by decide +kernel,rfl,by decide +kernel,by decide +kernel⟩
noncomputable abbrev gH:Stmt:=top 47
theorem Vl:FnScope ["_law_script","_law_at_here","_law_broad","_law_tall"] ["_law_script","_law_at_here","_law_broad","_law_tall"] (defScope gH):=⟨rfl,rfl,rfl,by decide +kernel,rfl,by decide +kernel,by decide +kernel⟩
noncomputable abbrev qe:Stmt:=top 17
theorem aaz:FnScope ["line","last"] ["line"] (defScope qe):=⟨rfl,rfl,rfl,by decide +kernel,rfl,by decide +kernel,by decide +kernel⟩
noncomputable abbrev fL:Stmt:=top 31
theorem fX:FnScope ["picture","y","row","above","last","told","x","gap","from_left","from_right"] ["picture","y"] (defScope fL):=⟨rfl,rfl,rfl,by decide +kernel,rfl,by decide +kernel,by decide +kernel⟩
noncomputable abbrev jG:Stmt:=top 10
theorem abn:FnScope ["thing"] ["thing"] (defScope jG):=⟨rfl,rfl,rfl,by decide +kernel,rfl,by decide +kernel,by decide +kernel⟩
noncomputable abbrev iK:Stmt:=top 8
theorem Yh:FnScope ["thing"] ["thing"] (defScope iK):=⟨rfl,rfl,rfl,by decide +kernel,rfl,by decide +kernel,by decide +kernel⟩
noncomputable abbrev jH:Stmt:=top 9
theorem abo:FnScope ["thing"] ["thing"] (defScope jH):=⟨rfl,rfl,rfl,by decide +kernel,rfl,by decide +kernel,by decide +kernel⟩
noncomputable abbrev lB:Stmt:=top 11
theorem ad8:FnScope ["thing"] ["thing"] (defScope lB):=⟨rfl,rfl,rfl,by decide +kernel,rfl,by decide +kernel,by decide +kernel⟩
noncomputable abbrev fM:Stmt:=top 12
theorem QM:FnScope ["thing"] ["thing"] (defScope fM):=⟨rfl,rfl,rfl,by decide +kernel,rfl,by decide +kernel,by decide +kernel⟩
noncomputable abbrev dR:Stmt:=top 13
theorem Ku:FnScope ["thing"] ["thing"] (defScope dR):=⟨rfl,rfl,rfl,by decide +kernel,rfl,by decide +kernel,by decide +kernel⟩
noncomputable abbrev jJ:Stmt:=top 14
theorem abp:FnScope ["picture"] ["picture"] (defScope jJ):=⟨rfl,rfl,rfl,by decide +kernel,rfl,by decide +kernel,by decide +kernel⟩
noncomputable abbrev lC:Stmt:=top 15
theorem Qu:FnScope ["picture","wide","high"] ["picture"] (defScope lC):=⟨rfl,rfl,rfl,by decide +kernel,rfl,by decide +kernel,by decide +kernel⟩
noncomputable abbrev lD:Stmt:=top 18
theorem w5:FnScope ["picture","wide","high","across","down"] ["picture"] (defScope lD):=⟨rfl,rfl,rfl,by decide +kernel,rfl,by decide +kernel,by decide +kernel⟩
noncomputable abbrev nG:Stmt:=top 32
theorem afT:FnScope ["picture","manner"] ["picture","manner"] (defScope nG):=⟨rfl,rfl,rfl,by decide +kernel,rfl,by decide +kernel,by decide +kernel⟩
noncomputable abbrev iM:Stmt:=top 28
theorem Yi:FnScope ["picture"] ["picture"] (defScope iM):=⟨rfl,rfl,rfl,by decide +kernel,rfl,by decide +kernel,by decide +kernel⟩
noncomputable abbrev jK:Stmt:=top 25
theorem abq:FnScope ["thing"] ["thing"] (defScope jK):=⟨rfl,rfl,rfl,by decide +kernel,rfl,by decide +kernel,by decide +kernel⟩
noncomputable abbrev dU:Stmt:=top 26
theorem Kv:FnScope ["thing","wide"] ["thing","wide"] (defScope dU):=⟨rfl,rfl,rfl,by decide +kernel,rfl,by decide +kernel,by decide +kernel⟩
noncomputable abbrev iQ:Stmt:=top 27
theorem Yj:FnScope ["thing","picture"] ["thing","picture"] (defScope iQ):=⟨rfl,rfl,rfl,by decide +kernel,rfl,by decide +kernel,by decide +kernel⟩
noncomputable abbrev fQ:Stmt:=top 29
theorem QS:FnScope ["thing","picture"] ["thing","picture"] (defScope fQ):=⟨rfl,rfl,rfl,by decide +kernel,rfl,by decide +kernel,by decide +kernel⟩
noncomputable abbrev jL:Stmt:=top 33
theorem abr:FnScope ["row","above","place"] ["row","above","place"] (defScope jL):=⟨rfl,rfl,rfl,by decide +kernel,rfl,by decide +kernel,by decide +kernel⟩
noncomputable abbrev qg:Stmt:=top 30
theorem ahN:FnScope ["place","wide"] ["place","wide"] (defScope qg):=⟨rfl,rfl,rfl,by decide +kernel,rfl,by decide +kernel,by decide +kernel⟩
noncomputable abbrev lE:Stmt:=top 34
theorem sU:FnScope ["beneath","row","x","told","place","fare"] ["beneath","row","x"] (defScope lE):=⟨rfl,rfl,rfl,by decide +kernel,rfl,by decide +kernel,by decide +kernel⟩
noncomputable abbrev nH:Stmt:=top 35
theorem lF:FnScope ["table","marks","start","gather","rows","y","row","x","mark","told","lost"] ["table","marks","start","gather"] (defScope nH):=⟨rfl,rfl,rfl,by decide +kernel,rfl,by decide +kernel,by decide +kernel⟩
noncomputable abbrev eZ:Stmt:=top 36
theorem En:FnScope ["table","marks","many","first_ones"] ["table","marks","many"] (defScope eZ):=⟨rfl,rfl,rfl,by decide +kernel,rfl,by decide +kernel,by decide +kernel⟩
noncomputable abbrev iR:Stmt:=top 37
theorem oG:FnScope ["table","rows","told","x","cell","fare"] ["table","rows"] (defScope iR):=⟨rfl,rfl,rfl,by decide +kernel,rfl,by decide +kernel,by decide +kernel⟩
noncomputable abbrev eE:Stmt:=top 38
theorem Nz:FnScope ["table","marks","many"] ["table","marks","many"] (defScope eE):=⟨rfl,rfl,rfl,by decide +kernel,rfl,by decide +kernel,by decide +kernel⟩
noncomputable abbrev gJ:Stmt:=top 39
theorem vM:FnScope ["table","marks","found","less","cost","seam"] ["table","marks"] (defScope gJ):=⟨rfl,rfl,rfl,by decide +kernel,rfl,by decide +kernel,by decide +kernel⟩
noncomputable abbrev eF:Stmt:=top 24
theorem NK:FnScope ["thing"] ["thing"] (defScope eF):=⟨rfl,rfl,rfl,by decide +kernel,rfl,by decide +kernel,by decide +kernel⟩
noncomputable abbrev jM:Stmt:=top 41
theorem abt:FnScope ["rows","seam"] ["rows","seam"] (defScope jM):=⟨rfl,rfl,rfl,by decide +kernel,rfl,by decide +kernel,by decide +kernel⟩
noncomputable abbrev dI:Stmt:=top 43
theorem nJ:FnScope ["picture","marks","manner","left","marked","seams","found","cost","seam"] ["picture","marks","manner"] (defScope dI):=⟨rfl,rfl,rfl,by decide +kernel,rfl,by decide +kernel,by decide +kernel⟩
noncomputable abbrev oZ:Stmt:=top 59
theorem Eo:FnScope ["_law_script","_law_picture_here","_law_tags","_law_mode","_law_y","_law_x"] ["_law_script"] (defScope oZ):=⟨rfl,rfl,rfl,by decide +kernel,rfl,by decide +kernel,by decide +kernel⟩
noncomputable abbrev jq:Stmt:=(defBody eZ).getD 0 (.Pass ⟨0,0,0,0⟩)
theorem QT:M7 ["x","told","many"] ["x","told"] "many" (defScope jq):=⟨rfl,rfl,rfl,by decide +kernel,rfl,by decide +kernel,by decide +kernel,by decide +kernel,by decide +kernel⟩
structure Txt (K:PySem.W.Frag) (mg:Str->Option Value):Prop where
 zU:∃t,mg "FREE" =some (.int 0 t)
 vN:∃t,mg "GONE" =some (.int 2 t)
 Ep:∃t,mg "KEPT" =some (.int 1 t)
 oH:∃t,mg "MOST_CELL" =some (.int 99 t)
 oJ:∃t,mg "MOST_LONG" =some (.int 20 t)
 sV:afs K mg "MANNERS" ["worth","joins"]
 sy:mg "abs" =none
 uz:mg "all" =none
 Kw:mg "any" =none
 Er:mg "bool" =none
 fj:mg "enumerate" =none
 Ky:mg "int" =none
 fU:mg "isinstance" =none
 cR:mg "len" =none
 Es:mg "list" =none
 sE:mg "max" =none
 uD:mg "min" =none
 eU:mg "range" =none
 qj:mg "reversed" =none
 q8:mg "sorted" =none
 Kz:mg "sum" =none
 dW:mg "tuple" =none
 Bh:mg "zip" =none
 KC:∀d:D,PySem.W.kitOne K (.type (mK d)) (.type "int")=some (Hj (mK d))
 Et:∀d:D,PySem.W.kitOne K (.type (mK d)) (.type "bool")=some (Al (mK d))
 q9:∀d:D,PySem.W.kitOne K (.type (mK d)) (.type "tuple")=some (kO (mK d))
 KD:∀d:D,PySem.W.kitOne K (.type (mK d)) (.type "list")=some (T5 (mK d))
section
variable {P:Program} {w:World} {K:PySem.W.Frag} {mg:Str->Option Value} {base:Heap}
theorem QV {f:Addr} {cdv:Value} {A:Around} {outer:List PySem.Env} {s:Shared} {H:Hp} {E:XK} (T:Txt K mg)  (hr:Room 0 (A.deeper (envOfC "_law_drawn" (defScope fH) s.heap.objs.size f cdv))):cW (cxOf CX0 P w K mg base ["_law_script","_law_k","_law_many","_law_cell","_law_turn","_law_rest"] "_law_drawn" (defScope fH) f cdv A outer s H E).nox (defBody fH) vm:=by
 exact (aU (cg 3 dJ.nd (aW sG aJ (dv 1))) (aU (fZ (cI (wX (fG hr)) (dv 0) (mD aA)) (aU (cg 3 dJ.nd (bW (dv 0) (aW sH (dv 1) (bf cJ rfl T.cR PySem.boot_len (aj (dv 0) aA))))) (aU (cg 4 dJ.nd (aW uQ (dv 1) (bf cJ rfl T.cR PySem.boot_len (aj (dv 0) aA)))) (aU (fZ (DW.dt (JZ (cI amV (dv 3) (aW ac4 aJ aJ)) (G6 (cI aaJ (dv 4) aJ)))) (aU (cg 5 dJ.nd (aW uQ (dv 3) (aW ac4 aJ aJ))) (aU (IW 64 PassesOwn.never (DW.dt (JZ (cI aaK (dv 5) aJ) (G6 (cI aaK (dv 4) aJ)))) (aU (cg 5 dJ.nd (aW uQ (dv 5) aJ)) (aX (cg 4 dJ.nd (aW dD (dv 4) aJ))))) (aX (fZ (cI aaK (dv 5) aJ) (aX (bM (aW sH (aW sH (dv 5) aJ) (dv 2)))) dj)))) dj) (aX (cg 3 dJ.nd (aW lJ (dv 3) (aW sG aJ (aW uQ (dv 1) (bf cJ rfl T.cR PySem.boot_len (aj (dv 0) aA)))))))))) dj) (aU (cg 3 dJ.nd (aW sH (aW lJ (aW sG (aW sH (dv 3) aJ) aJ) (aW sG aJ (aW lJ (dv 1) aJ))) aJ)) (aU (cg 3 dJ.nd (aW sH (aW lJ (aW sG (dv 3) (dv 3)) (aW uQ (dv 3) aJ)) aJ)) (aX (bM (aW sH (aW uQ (aW sH (aW lJ (aW sG (dv 3) (dv 3)) (aW uQ (dv 3) aJ)) aJ) aJ) (dv 2))))))))
theorem QW {f:Addr} {fd:FuncData} (Fn:Fun K "_law_drawn" "_law_drawn" fH f fd) (hmg:mg "_law_drawn" =some (.ref f)) (hb:Binds K fd ["_law_script","_law_k","_law_many"] []) (T:Txt K mg)  :aY P w K mg base 1 "_law_drawn" 3 bU:=
 cB (k:=0) (g:=vm) Fn hmg hb dJ rfl rfl λ cdv A outer s H E hr=>QV T  hr
theorem abu {f:Addr} {cdv:Value} {A:Around} {outer:List PySem.Env} {s:Shared} {H:Hp} {E:XK} (T:Txt K mg)  (hr:Room 0 (A.deeper (envOfC "_law_at" (defScope jF) s.heap.objs.size f cdv))):cW (cxOf CX0 P w K mg base ["_law_picture_here","_law_x","_law_y"] "_law_at" (defScope jF) f cdv A outer s H E).nox (defBody jF) DQ:=by
 exact (aX (bM (bW (bW (dv 0) (bf (zE rfl) rfl T.sE boot_max (aj aJ (aj (bf (Dt rfl) rfl T.uD boot_min (aj (aW dD (bf cJ rfl T.cR PySem.boot_len (aj (dv 0) aA)) aJ) (aj (dv 2) aA))) aA)))) (bf (zE rfl) rfl T.sE boot_max (aj aJ (aj (bf (Dt rfl) rfl T.uD boot_min (aj (aW dD (bf cJ rfl T.cR PySem.boot_len (aj (bW (dv 0) aJ) aA)) aJ) (aj (dv 1) aA))) aA))))))
theorem abv {f:Addr} {fd:FuncData} (Fn:Fun K "_law_at" "_law_at" jF f fd) (hmg:mg "_law_at" =some (.ref f)) (hb:Binds K fd ["_law_picture_here","_law_x","_law_y"] []) (T:Txt K mg)  :aY P w K mg base 1 "_law_at" 3 gQ:=
 cB (k:=0) (g:=DQ) Fn hmg hb abm rfl rfl λ cdv A outer s H E hr=>abu T  hr
theorem Vm {f:Addr} {cdv:Value} {A:Around} {outer:List PySem.Env} {s:Shared} {H:Hp} {E:XK} (T:Txt K mg) (kY:aY P w K mg base 1 "_law_at" 3 gQ) (hr:Room 1 (A.deeper (envOfC "_law_step" (defScope gB) s.heap.objs.size f cdv))):cW (cxOf CX0 P w K mg base ["_law_picture_here","_law_mode","_law_x","_law_y","_law_before","_law_found"] "_law_step" (defScope gB) f cdv A outer s H E).nox (defBody gB) xH:=by
 exact (aU (cg 5 vL.nd (bf zB rfl T.sy boot_abs (aj (aW dD (bQ kY hr (by decide) (aj (dv 0) (aj (aW dD (dv 2) aJ) (aj (dv 3) aA)))) (bQ kY hr (by decide) (aj (dv 0) (aj (aW cu (dv 2) aJ) (aj (dv 3) aA))))) aA))) (aU (fZ (cI (pO (fG hr)) (dv 1) Di) (aX (bM (aW cu (dv 5) (bf zB rfl T.sy boot_abs (aj (aW dD (bQ kY hr (by decide) (aj (dv 0) (aj (dv 2) (aj (aW dD (dv 3) aJ) aA)))) (bQ kY hr (by decide) (aj (dv 0) (aj (dv 2) (aj (aW cu (dv 3) aJ) aA))))) aA))))) dj) (aU (fZ (DW.dt (JZ (cI afm (dv 4) jV) (G6 (cI (wX (fG hr)) (dv 4) (dv 2))))) (aX (cg 5 vL.nd (aW cu (dv 5) (bf zB rfl T.sy boot_abs (aj (aW dD (bW (bW (dv 0) (aW dD (dv 3) aJ)) (dv 2)) (bW (bW (dv 0) (dv 3)) (Tc (cI aaJ (dv 4) (dv 2)) (aW dD (dv 2) aJ) (aW cu (dv 2) aJ)))) aA))))) dj) (aX (bM (dv 5))))))
theorem Vn {f:Addr} {fd:FuncData} (Fn:Fun K "_law_step" "_law_step" gB f fd) (hmg:mg "_law_step" =some (.ref f)) (hb:Binds K fd ["_law_picture_here","_law_mode","_law_x","_law_y","_law_before"] []) (T:Txt K mg) (kY:aY P w K mg base 1 "_law_at" 3 gQ):aY P w K mg base 2 "_law_step" 5 gq:=
 cB (k:=1) (g:=xH) Fn hmg hb vL rfl rfl λ cdv A outer s H E hr=>Vm T kY hr
theorem Vo {f:Addr} {cdv:Value} {A:Around} {outer:List PySem.Env} {s:Shared} {H:Hp} {E:XK} (T:Txt K mg) (oK:aY P w K mg base 2 "_law_step" 5 gq) (hr:Room 2 (A.deeper (envOfC "_law_cost" (defScope gC) s.heap.objs.size f cdv))):cW (cxOf CX0 P w K mg base ["_law_picture_here","_law_mode","_law_seam","_law_befores"] "_law_cost" (defScope gC) f cdv A outer s H E).nox (defBody gC) xJ:=by
 exact (aU (cg 3 Em.nd (aW cu (dF (aj jV aA)) (mO (dv 2) jP (jQ (zF aJ))))) (aX (bM (bf (aiT rfl) rfl T.Kz boot_sum (aj (cD ["_law_y","_law_x"] [3,1,0] rfl (by kernel_rfl) (by kernel_rfl) (uK rfl T.fj (aj (dv 2) aA)) (jD (cA (bC (by decide)) (cA (bC (by decide)) jC))) (λ Z Z Z Z nd=>pK rfl (cU (bO 0 nd) (cU (bO 1 nd) nq))) (λ Z Z Z Z=>cP) (λ Z Z Z Z=>(bQ oK hr (by decide) (aj (dv 4) (aj (dv 3) (aj (dv 1) (aj (dv 0) (aj (bW (dv 2) (dv 0)) aA)))))))) aA)))))
theorem Vp {f:Addr} {fd:FuncData} (Fn:Fun K "_law_cost" "_law_cost" gC f fd) (hmg:mg "_law_cost" =some (.ref f)) (hb:Binds K fd ["_law_picture_here","_law_mode","_law_seam"] []) (T:Txt K mg) (oK:aY P w K mg base 2 "_law_step" 5 gq):aY P w K mg base 3 "_law_cost" 3 jR:=
 cB (k:=2) (g:=xJ) Fn hmg hb Em rfl rfl λ cdv A outer s H E hr=>Vo T oK hr
theorem QX {f:Addr} {cdv:Value} {A:Around} {outer:List PySem.Env} {s:Shared} {H:Hp} {E:XK} (T:Txt K mg)  (hr:Room 0 (A.deeper (envOfC "_law_signs" (defScope fJ) s.heap.objs.size f cdv))):cW (cxOf CX0 P w K mg base ["_law_tags","_law_seam","_law_sign"] "_law_signs" (defScope fJ) f cdv A outer s H E).nox (defBody fJ) vo:=by
 exact (aX (bM (bf cJ rfl T.cR PySem.boot_len (aj (cD ["_law_row","_law_x"] [2] rfl (by kernel_rfl) (by kernel_rfl) (M5 rfl T.Bh (aj (dv 0) (aj (dv 1) aA))) (jD (cA (bC (by decide)) (cA (bC (by decide)) jC))) (λ Z Z Z Z nd=>pK rfl (cU (bO 0 nd) (cU (bO 1 nd) nq))) (λ Z Z Z Z=>(Hf (cI (pO (fG hr)) (bW (dv 0) (dv 1)) (dv 2)))) (λ Z Z Z Z=>(dv 1))) aA))))
theorem QZ {f:Addr} {fd:FuncData} (Fn:Fun K "_law_signs" "_law_signs" fJ f fd) (hmg:mg "_law_signs" =some (.ref f)) (hb:Binds K fd ["_law_tags","_law_seam","_law_sign"] []) (T:Txt K mg)  :aY P w K mg base 1 "_law_signs" 3 gR:=
 cB (k:=0) (g:=vo) Fn hmg hb QL rfl rfl λ cdv A outer s H E hr=>QX T  hr
theorem Vq {f:Addr} {cdv:Value} {A:Around} {outer:List PySem.Env} {s:Shared} {H:Hp} {E:XK} (T:Txt K mg)  (hr:Room 0 (A.deeper (envOfC "_law_ways" (defScope gD) s.heap.objs.size f cdv))):cW (cxOf CX0 P w K mg base ["_law_broad","_law_tall","_law_found","_law_y","_law_more","_law_way"] "_law_ways" (defScope gD) f cdv A outer s H E).nox (defBody gD) xK:=by
 exact (aU (ahf 2 jo.nd ["_law_x"] [] rfl (by kernel_rfl) (by kernel_rfl) (gP rfl T.eU (aj (dv 0) aA)) (bC (by decide)) (λ Z Z Z Z nd=>bO 0 nd) (λ Z Z Z Z=>cP) (λ Z Z Z Z=>(dF (aj (dv 0) aA)))) (aU (nU PassesOwn.never rfl (gP rfl T.eU (aj (aW dD (dv 1) aJ) aA)) (qC 3 jo.nd) (aU (cg 4 jo.nd (mD aA)) (aU (nU PassesOwn.never rfl (eG (dv 2)) (qC 5 jo.nd) (aX (cg 4 jo.nd (aW cu (dv 4) (cD ["_law_x"] [0,5] rfl (by kernel_rfl) (by kernel_rfl) (eG (dF (aj (aW dD (bW (dv 5) (zF aJ)) aJ) (aj (bW (dv 5) (zF aJ)) (aj (aW cu (bW (dv 5) (zF aJ)) aJ) aA))))) (bC (by decide)) (λ Z Z Z Z nd=>bO 0 nd) (λ Z Z Z Z=>(Hf (DW.dt (JZ (cI Ad aJ (dv 0)) (G6 (cI aaJ (dv 0) (dv 1))))))) (λ Z Z Z Z=>(aW cu (dv 2) (dF (aj (dv 0) aA))))))))) (aX (cg 2 jo.nd (dv 4)))))) (aX (bM (dv 2)))))
theorem Vr {f:Addr} {fd:FuncData} (Fn:Fun K "_law_ways" "_law_ways" gD f fd) (hmg:mg "_law_ways" =some (.ref f)) (hb:Binds K fd ["_law_broad","_law_tall"] []) (T:Txt K mg)  :aY P w K mg base 1 "_law_ways" 2 lV:=
 cB (k:=0) (g:=xK) Fn hmg hb jo rfl rfl λ cdv A outer s H E hr=>Vq T  hr
theorem Vs {f:Addr} {cdv:Value} {A:Around} {outer:List PySem.Env} {s:Shared} {H:Hp} {E:XK} (T:Txt K mg) (oM:aY P w K mg base 3 "_law_cost" 3 jR) (j9:aY P w K mg base 1 "_law_signs" 3 gR) (oN:aY P w K mg base 1 "_law_ways" 2 lV) (hr:Room 3 (A.deeper (envOfC "_law_best" (defScope gF) s.heap.objs.size f cdv))):cW (cxOf CX0 P w K mg base ["_law_picture_here","_law_mode","_law_tags","_law_best_here","_law_way","_law_here"] "_law_best" (defScope gF) f cdv A outer s H E).nox (defBody gF) xM:=by
 exact (aU (cg 3 mX.nd jV) (aU (nU PassesOwn.never rfl (eG (bQ oN hr (by decide) (aj (bf cJ rfl T.cR PySem.boot_len (aj (bW (dv 0) aJ) aA)) (aj (bf cJ rfl T.cR PySem.boot_len (aj (dv 0) aA)) aA)))) (qC 4 mX.nd) (aX (fZ (cI (pO (fG hr)) (bQ j9 hr (by decide) (aj (dv 2) (aj (dv 4) (aj aJ aA)))) aJ) (aU (cg 5 mX.nd (dF (aj (zF (bQ j9 hr (by decide) (aj (dv 2) (aj (dv 4) (aj aJ aA))))) (aj (bQ oM hr (by decide) (aj (dv 0) (aj (dv 1) (aj (dv 4) aA)))) (aj (dv 4) aA))))) (aX (cg 3 mX.nd (Tc (DW.dt (J0 (cI Hr (dv 3) jV) (Dj (cI (ajd (Uv hr)) (dv 5) (dv 3))))) (dv 5) (dv 3))))) dj))) (aX (bM (Tc (cI Hr (dv 3) jV) jV (bW (dv 3) aJ))))))
theorem Vt {f:Addr} {fd:FuncData} (Fn:Fun K "_law_best" "_law_best" gF f fd) (hmg:mg "_law_best" =some (.ref f)) (hb:Binds K fd ["_law_picture_here","_law_mode","_law_tags"] []) (T:Txt K mg) (oM:aY P w K mg base 3 "_law_cost" 3 jR) (j9:aY P w K mg base 1 "_law_signs" 3 gR) (oN:aY P w K mg base 1 "_law_ways" 2 lV):aY P w K mg base 4 "_law_best" 3 lW:=
 cB (k:=3) (g:=xM) Fn hmg hb mX rfl rfl λ cdv A outer s H E hr=>Vs T oM j9 oN hr
theorem Yk {f:Addr} {cdv:Value} {A:Around} {outer:List PySem.Env} {s:Shared} {H:Hp} {E:XK} (T:Txt K mg)  (hr:Room 0 (A.deeper (envOfC "_law_cut" (defScope iI) s.heap.objs.size f cdv))):cW (cxOf CX0 P w K mg base ["_law_rows","_law_seam"] "_law_cut" (defScope iI) f cdv A outer s H E).nox (defBody iI) Av:=by
 exact (aX (bM (iu iw rfl T.dW boot_tuple (aj (cD ["_law_row","_law_x"] [] rfl (by kernel_rfl) (by kernel_rfl) (M5 rfl T.Bh (aj (dv 0) (aj (dv 1) aA))) (jD (cA (bC (by decide)) (cA (bC (by decide)) jC))) (λ Z Z Z Z nd=>pK rfl (cU (bO 0 nd) (cU (bO 1 nd) nq))) (λ Z Z Z Z=>cP) (λ Z Z Z Z=>(iu iw rfl T.dW boot_tuple (aj (cD ["_law_at_here","_law_one"] [1] rfl (by kernel_rfl) (by kernel_rfl) (uK rfl T.fj (aj (dv 0) aA)) (jD (cA (bC (by decide)) (cA (bC (by decide)) jC))) (λ Z Z Z Z nd=>pK rfl (cU (bO 0 nd) (cU (bO 1 nd) nq))) (λ Z Z Z Z=>(Hf (cI (wX (fG hr)) (dv 0) (dv 2)))) (λ Z Z Z Z=>(dv 1))) aA)))) aA))))
theorem Yl {f:Addr} {fd:FuncData} (Fn:Fun K "_law_cut" "_law_cut" iI f fd) (hmg:mg "_law_cut" =some (.ref f)) (hb:Binds K fd ["_law_rows","_law_seam"] []) (T:Txt K mg)  :aY P w K mg base 1 "_law_cut" 2 lA:=
 cB (k:=0) (g:=Av) Fn hmg hb Yg rfl rfl λ cdv A outer s H E hr=>Yk T  hr
theorem Ym {f:Addr} {cdv:Value} {A:Around} {outer:List PySem.Env} {s:Shared} {H:Hp} {E:XK} (T:Txt K mg) (oO:aY P w K mg base 4 "_law_best" 3 lW) (nM:aY P w K mg base 1 "_law_cut" 2 lA) (hr:Room 4 (A.deeper (envOfC "_law_due" (defScope iJ) s.heap.objs.size f cdv))):cW (cxOf CX0 P w K mg base ["_law_picture_here","_law_tags","_law_mode","_law_seams","_law_seam"] "_law_due" (defScope iJ) f cdv A outer s H E).nox (defBody iJ) Aw:=by
 exact (aU (pA 3 su.nd aA) (aU (IW 64 PassesOwn.never (cI (wX (fG hr)) (cD ["_law_row"] [] rfl (by kernel_rfl) (by kernel_rfl) (eG (dv 1)) (bC (by decide)) (λ Z Z Z Z nd=>bO 0 nd) (λ Z Z Z Z=>(Hf (cI agM aJ (dv 0) (by rfl)))) (λ Z Z Z Z=>(dv 0))) (mD aA)) (aU (cg 4 su.nd (bQ oO hr (by decide) (aj (dv 0) (aj (dv 2) (aj (dv 1) aA))))) (aU (fZ (DW.dt (J0 (cI Hr (dv 4) jV) (Dj (cI (pO (fG hr)) (bf cJ rfl T.cR PySem.boot_len (aj (bW (dv 0) aJ) aA)) aJ)))) (aX (bM jV)) dj) (aU (zp 3 (dv 4)) (aX (Dr 0 1 rfl su.nd (bQ nM hr (by decide) (aj (dv 0) (aj (dv 4) aA))) (bQ nM hr (by decide) (aj (dv 1) (aj (dv 4) aA))))))))) (aX (bM (dv 3)))))
theorem Yn {f:Addr} {fd:FuncData} (Fn:Fun K "_law_due" "_law_due" iJ f fd) (hmg:mg "_law_due" =some (.ref f)) (hb:Binds K fd ["_law_picture_here","_law_tags","_law_mode"] []) (T:Txt K mg) (oO:aY P w K mg base 4 "_law_best" 3 lW) (nM:aY P w K mg base 1 "_law_cut" 2 lA):aY P w K mg base 5 "_law_due" 3 iH:=
 cB (k:=4) (g:=Aw) Fn hmg hb su rfl rfl λ cdv A outer s H E hr=>Ym T oO nM hr
theorem Vu {f:Addr} {cdv:Value} {A:Around} {outer:List PySem.Env} {s:Shared} {H:Hp} {E:XK} (T:Txt K mg)  (hr:Room 0 (A.deeper (envOfC "_law_free" (defScope gG) s.heap.objs.size f cdv))):cW (cxOf CX0 P w K mg base ["_law_picture_here"] "_law_free" (defScope gG) f cdv A outer s H E).nox (defBody gG) xO:=by
 exact (aX (bM (iu iw rfl T.dW boot_tuple (aj (cD ["_law_row"] [] rfl (by kernel_rfl) (by kernel_rfl) (eG (dv 0)) (bC (by decide)) (λ Z Z Z Z nd=>bO 0 nd) (λ Z Z Z Z=>cP) (λ Z Z Z Z=>(aW zG (dF (aj aJ aA)) (bf cJ rfl T.cR PySem.boot_len (aj (dv 0) aA))))) aA))))
theorem Vv {f:Addr} {fd:FuncData} (Fn:Fun K "_law_free" "_law_free" gG f fd) (hmg:mg "_law_free" =some (.ref f)) (hb:Binds K fd ["_law_picture_here"] []) (T:Txt K mg)  :aY P w K mg base 1 "_law_free" 1 eY:=
 cB (k:=0) (g:=xO) Fn hmg hb Vk rfl rfl λ cdv A outer s H E hr=>Vu T  hr
theorem NP {f:Addr} {cdv:Value} {A:Around} {outer:List PySem.Env} {s:Shared} {H:Hp} {E:XK} (T:Txt K mg) (bK:aY P w K mg base 1 "_law_drawn" 3 bU) (hr:Room 1 (A.deeper (envOfC "_law_manner" (defScope d9) s.heap.objs.size f cdv))):cW (cxOf CX0 P w K mg base ["_law_script","_law_at_here"] "_law_manner" (defScope d9) f cdv A outer s H E).nox (defBody d9) tD:=by
 exact (aX (bM (bW (mD (aj Di (aj Di aA))) (bQ bK hr (by decide) (aj (dv 0) (aj (dv 1) (aj aJ aA)))))))
theorem NQ {f:Addr} {fd:FuncData} (Fn:Fun K "_law_manner" "_law_manner" d9 f fd) (hmg:mg "_law_manner" =some (.ref f)) (hb:Binds K fd ["_law_script","_law_at_here"] []) (T:Txt K mg) (bK:aY P w K mg base 1 "_law_drawn" 3 bU):aY P w K mg base 2 "_law_manner" 2 jA:=
 cB (k:=1) (g:=tD) Fn hmg hb Ny rfl rfl λ cdv A outer s H E hr=>NP T bK hr
theorem il1 {X:Cx} {a:Int} {ja} {pa q}:DE X (.List [.Constant (.int a) ja pa] q) (jN (ao (λ Z=> .ok (.int a)) (λ Z=> .ok []))):=mD (aj aJ aA)
theorem il5 {X:Cx} {a b c d e:Int} {ja jb jc jd je} {pa pb pc pd pe q}:DE X (.List [.Constant (.int a) ja pa,.Constant (.int b) jb pb,.Constant (.int c) jc pc,.Constant (.int d) jd pd,.Constant (.int e) je pe] q) (jN (ao (λ Z=> .ok (.int a)) (ao (λ Z=> .ok (.int b)) (ao (λ Z=> .ok (.int c)) (ao (λ Z=> .ok (.int d)) (ao (λ Z=> .ok (.int e)) (λ Z=> .ok []))))))):=mD (aj aJ (aj aJ (aj aJ (aj aJ (aj aJ aA)))))
theorem Q0 {f:Addr} {cdv:Value} {A:Around} {outer:List PySem.Env} {s:Shared} {H:Hp} {E:XK} (T:Txt K mg) (bK:aY P w K mg base 1 "_law_drawn" 3 bU) (hr:Room 1 (A.deeper (envOfC "_law_marks" (defScope fK) s.heap.objs.size f cdv))):cW (cxOf CX0 P w K mg base ["_law_script","_law_at_here","_law_picture_here","_law_rows","_law_signs_here","_law_y","_law_row","_law_here"] "_law_marks" (defScope fK) f cdv A outer s H E).nox (defBody fK) vp:=by
 refine (aU (pA 3 lN.nd aA) (aU ?_ ?_))
 ·refine cg 4 ?_ ?_ (hi:=?_) (hx:=?_) (hs:=?_) (hf:=?_)
  ·exact lN.nd
  ·refine bW ?_ ?_
   ·refine mD ?_
    refine aj ?_ ?_
    ·exact il5
    refine aj ?_ ?_
    ·exact il5
    refine aj ?_ ?_
    ·exact il5
    refine aj ?_ ?_
    ·exact il1
    exact aA
   ·exact (bQ bK hr (by decide) (aj (dv 0) (aj (dv 1) (aj aJ aA))))
  ·rfl
  ·first |exact Or.inl rfl |exact Or.inr rfl
  ·rfl
  ·first |exact Or.inl rfl |exact Or.inr rfl
 ·exact (aU (nU PassesOwn.never rfl (uK rfl T.fj (aj (dv 2) aA)) (Hg 5 6 rfl lN.nd) (aU (cg 7 lN.nd (aW cu (aW cu (dv 1) aJ) (aW zG (bf cJ rfl T.cR PySem.boot_len (aj (dv 6) aA)) (dv 5)))) (aX (zp 3 (iu iw rfl T.dW boot_tuple (aj (cD ["_law_x"] [7,0,4] rfl (by kernel_rfl) (by kernel_rfl) (gP rfl T.eU (aj (bf cJ rfl T.cR PySem.boot_len (aj (dv 6) aA)) aA)) (bC (by decide)) (λ Z Z Z Z nd=>bO 0 nd) (λ Z Z Z Z=>cP) (λ Z Z Z Z=>(bW (dv 3) (bQ bK hr (by decide) (aj (dv 2) (aj (aW cu (dv 1) (dv 0)) (aj (bf cJ rfl T.cR PySem.boot_len (aj (dv 3) aA)) aA))))))) aA)))))) (aX (bM (iu iw rfl T.dW boot_tuple (aj (dv 3) aA)))))
theorem Q5 {f:Addr} {fd:FuncData} (Fn:Fun K "_law_marks" "_law_marks" fK f fd) (hmg:mg "_law_marks" =some (.ref f)) (hb:Binds K fd ["_law_script","_law_at_here","_law_picture_here"] []) (T:Txt K mg) (bK:aY P w K mg base 1 "_law_drawn" 3 bU):aY P w K mg base 2 "_law_marks" 3 jY:=
 cB (k:=1) (g:=vp) Fn hmg hb lN rfl rfl λ cdv A outer s H E hr=>Q0 T bK hr
theorem KH {f:Addr} {cdv:Value} {A:Around} {outer:List PySem.Env} {s:Shared} {H:Hp} {E:XK} (T:Txt K mg) (bK:aY P w K mg base 1 "_law_drawn" 3 bU) (hr:Room 1 (A.deeper (envOfC "_law_picture" (defScope dO) s.heap.objs.size f cdv))):cW (cxOf CX0 P w K mg base ["_law_script","_law_at_here","_law_broad","_law_tall","_law_most","_law_rows","_law_y"] "_law_picture" (defScope dO) f cdv A outer s H E).nox (defBody dO) qL:=by
 exact (aU (ag1 4 5 rfl qd.nd (bW (mD (aj aJ (aj aJ (aj aJ (aj aJ aA))))) (bQ bK hr (by decide) (aj (dv 0) (aj (dv 1) (aj aJ aA))))) aA) (aU (nU PassesOwn.never rfl (gP rfl T.eU (aj (dv 3) aA)) (qC 6 qd.nd) (aX (zp 5 (iu iw rfl T.dW boot_tuple (aj (cD ["_law_x"] [1,2,4,0,6] rfl (by kernel_rfl) (by kernel_rfl) (gP rfl T.eU (aj (dv 2) aA)) (bC (by decide)) (λ Z Z Z Z nd=>bO 0 nd) (λ Z Z Z Z=>cP) (λ Z Z Z Z=>(bQ bK hr (by decide) (aj (dv 4) (aj (aW lJ (aW lJ (aW lJ (dv 1) aJ) (aW sG (dv 2) (dv 5))) (dv 0)) (aj (dv 3) aA)))))) aA))))) (aX (bM (iu iw rfl T.dW boot_tuple (aj (dv 5) aA))))))
theorem KJ {f:Addr} {fd:FuncData} (Fn:Fun K "_law_picture" "_law_picture" dO f fd) (hmg:mg "_law_picture" =some (.ref f)) (hb:Binds K fd ["_law_script","_law_at_here","_law_broad","_law_tall"] []) (T:Txt K mg) (bK:aY P w K mg base 1 "_law_drawn" 3 bU):aY P w K mg base 2 "_law_picture" 4 jg:=
 cB (k:=1) (g:=qL) Fn hmg hb qd rfl rfl λ cdv A outer s H E hr=>KH T bK hr
theorem Vw {f:Addr} {cdv:Value} {A:Around} {outer:List PySem.Env} {s:Shared} {H:Hp} {E:XK} (T:Txt K mg) (bK:aY P w K mg base 1 "_law_drawn" 3 bU) (kh:aY P w K mg base 2 "_law_picture" 4 jg) (hr:Room 2 (A.deeper (envOfC "_law_some" (defScope gH) s.heap.objs.size f cdv))):cW (cxOf CX0 P w K mg base ["_law_script","_law_at_here","_law_broad","_law_tall"] "_law_some" (defScope gH) f cdv A outer s H E).nox (defBody gH) xP:=by
 exact (aX (bM (bQ kh hr (by decide) (aj (dv 0) (aj (aW lJ (dv 1) aJ) (aj (aW lJ aJ (bQ bK hr (by decide) (aj (dv 0) (aj (dv 1) (aj (dv 2) aA))))) (aj (aW lJ aJ (bQ bK hr (by decide) (aj (dv 0) (aj (aW lJ (dv 1) aJ) (aj (dv 3) aA))))) aA)))))))
theorem Vx {f:Addr} {fd:FuncData} (Fn:Fun K "_law_some" "_law_some" gH f fd) (hmg:mg "_law_some" =some (.ref f)) (hb:Binds K fd ["_law_script","_law_at_here","_law_broad","_law_tall"] []) (T:Txt K mg) (bK:aY P w K mg base 1 "_law_drawn" 3 bU) (kh:aY P w K mg base 2 "_law_picture" 4 jg):aY P w K mg base 3 "_law_some" 4 lX:=
 cB (k:=2) (g:=xP) Fn hmg hb Vl rfl rfl λ cdv A outer s H E hr=>Vw T bK kh hr
theorem ahO {f:Addr} {cdv:Value} {A:Around} {outer:List PySem.Env} {s:Shared} {H:Hp} {E:XK} (T:Txt K mg)  (hr:Room 0 (A.deeper (envOfC "gaps" (defScope qe) s.heap.objs.size f cdv))):cW (cxOf CX0 P w K mg base ["line","last"] "gaps" (defScope qe) f cdv A outer s H E).nox (defBody qe) Uy:=by
 exact (aU (cg 1 aaz.nd (aW dD (bf cJ rfl T.cR PySem.boot_len (aj (dv 0) aA)) aJ)) (aX (bM (cD ["at"] [1,0] rfl (by kernel_rfl) (by kernel_rfl) (gP rfl T.eU (aj (bf cJ rfl T.cR PySem.boot_len (aj (dv 0) aA)) aA)) (bC (by decide)) (λ Z Z Z Z nd=>bO 0 nd) (λ Z Z Z Z=>cP) (λ Z Z Z Z=>(bf zB rfl T.sy boot_abs (aj (aW dD (bW (dv 2) (bf (zE rfl) rfl T.sE boot_max (aj (aW dD (dv 0) aJ) (aj aJ aA)))) (bW (dv 2) (bf (Dt rfl) rfl T.uD boot_min (aj (aW cu (dv 0) aJ) (aj (dv 1) aA))))) aA)))))))
theorem ahP {f:Addr} {fd:FuncData} (Fn:Fun K "gaps" "gaps" qe f fd) (hmg:mg "gaps" =some (.ref f)) (hb:Binds K fd ["line"] []) (T:Txt K mg)  :aY P w K mg base 1 "gaps" 1 oE:=
 cB (k:=0) (g:=Uy) Fn hmg hb aaz rfl rfl λ cdv A outer s H E hr=>ahO T  hr
theorem Q6 {f:Addr} {cdv:Value} {A:Around} {outer:List PySem.Env} {s:Shared} {H:Hp} {E:XK} (T:Txt K mg) (mY:aY P w K mg base 1 "gaps" 1 oE) (hr:Room 1 (A.deeper (envOfC "join_fares" (defScope fL) s.heap.objs.size f cdv))):cW (cxOf CX0 P w K mg base ["picture","y","row","above","last","told","x","gap","from_left","from_right"] "join_fares" (defScope fL) f cdv A outer s H E).nox (defBody fL) vB:=by
 exact (aU (cg 2 fX.nd (bW (dv 0) (dv 1))) (aU (cg 3 fX.nd (bW (dv 0) (bf (zE rfl) rfl T.sE boot_max (aj (aW dD (dv 1) aJ) (aj aJ aA))))) (aU (cg 4 fX.nd (aW dD (bf cJ rfl T.cR PySem.boot_len (aj (dv 2) aA)) aJ)) (aU (pA 5 fX.nd aA) (aU (nU PassesOwn.never rfl (uK rfl T.fj (aj (bQ mY hr (by decide) (aj (dv 2) aA)) aA)) (Hg 6 7 rfl fX.nd) (aU (cg 8 fX.nd (aW cu (dv 7) (bf zB rfl T.sy boot_abs (aj (aW dD (bW (dv 3) (dv 6)) (bW (dv 2) (bf (zE rfl) rfl T.sE boot_max (aj (aW dD (dv 6) aJ) (aj aJ aA))))) aA)))) (aU (cg 9 fX.nd (aW cu (dv 7) (bf zB rfl T.sy boot_abs (aj (aW dD (bW (dv 3) (dv 6)) (bW (dv 2) (bf (Dt rfl) rfl T.uD boot_min (aj (aW cu (dv 6) aJ) (aj (dv 4) aA))))) aA)))) (aX (zp 5 (dF (aj (dv 8) (aj (dv 7) (aj (dv 9) aA))))))))) (aX (bM (dv 5))))))))
theorem Q7 {f:Addr} {fd:FuncData} (Fn:Fun K "join_fares" "join_fares" fL f fd) (hmg:mg "join_fares" =some (.ref f)) (hb:Binds K fd ["picture","y"] []) (T:Txt K mg) (mY:aY P w K mg base 1 "gaps" 1 oE):aY P w K mg base 2 "join_fares" 2 jZ:=
 cB (k:=1) (g:=vB) Fn hmg hb fX rfl rfl λ cdv A outer s H E hr=>Q6 T mY hr
theorem abw {f:Addr} {cdv:Value} {A:Around} {outer:List PySem.Env} {s:Shared} {H:Hp} {E:XK} (T:Txt K mg)  (hr:Room 0 (A.deeper (envOfC "is_line" (defScope jG) s.heap.objs.size f cdv))):cW (cxOf CX0 P w K mg base ["thing"] "is_line" (defScope jG) f cdv A outer s H E).nox (defBody jG) DR:=by
 obtain⟨ajO,Yo⟩:=T.oJ
 exact (aX (bM (uR (zq (ans:=kO) T.q9 (dv 0) rfl T.fU boot_isinstance rfl T.dW boot_tuple) (zj (Iz Ad Ad aJ (bf cJ rfl T.cR PySem.boot_len (aj (dv 0) aA)) (pq rfl Yo))))))
theorem abx {f:Addr} {fd:FuncData} (Fn:Fun K "is_line" "is_line" jG f fd) (hmg:mg "is_line" =some (.ref f)) (hb:Binds K fd ["thing"] []) (T:Txt K mg)  :aY P w K mg base 1 "is_line" 1 iV:=
 cB (k:=0) (g:=DR) Fn hmg hb abn rfl rfl λ cdv A outer s H E hr=>abw T  hr
theorem Yp {f:Addr} {cdv:Value} {A:Around} {outer:List PySem.Env} {s:Shared} {H:Hp} {E:XK} (T:Txt K mg)  (hr:Room 0 (A.deeper (envOfC "is_whole" (defScope iK) s.heap.objs.size f cdv))):cW (cxOf CX0 P w K mg base ["thing"] "is_whole" (defScope iK) f cdv A outer s H E).nox (defBody iK) Ax:=by
 exact (aX (bM (uR (zq (ans:=Hj) T.KC (dv 0) rfl T.fU boot_isinstance rfl T.Ky boot_int) (zj (aiG (zq (ans:=Al) T.Et (dv 0) rfl T.fU boot_isinstance rfl T.Er boot_bool))))))
theorem Yq {f:Addr} {fd:FuncData} (Fn:Fun K "is_whole" "is_whole" iK f fd) (hmg:mg "is_whole" =some (.ref f)) (hb:Binds K fd ["thing"] []) (T:Txt K mg)  :aY P w K mg base 1 "is_whole" 1 gw:=
 cB (k:=0) (g:=Ax) Fn hmg hb Yh rfl rfl λ cdv A outer s H E hr=>Yp T  hr
theorem aby {f:Addr} {cdv:Value} {A:Around} {outer:List PySem.Env} {s:Shared} {H:Hp} {E:XK} (T:Txt K mg) (gK:aY P w K mg base 1 "is_whole" 1 gw) (hr:Room 1 (A.deeper (envOfC "is_cell" (defScope jH) s.heap.objs.size f cdv))):cW (cxOf CX0 P w K mg base ["thing"] "is_cell" (defScope jH) f cdv A outer s H E).nox (defBody jH) DX:=by
 obtain⟨ajP,Yr⟩:=T.oH
 exact (aX (bM (uR (bQ gK hr (by decide) (aj (dv 0) aA)) (zj (Iz Ad Ad aJ (dv 0) (pq rfl Yr))))))
theorem abz {f:Addr} {fd:FuncData} (Fn:Fun K "is_cell" "is_cell" jH f fd) (hmg:mg "is_cell" =some (.ref f)) (hb:Binds K fd ["thing"] []) (T:Txt K mg) (gK:aY P w K mg base 1 "is_whole" 1 gw):aY P w K mg base 2 "is_cell" 1 pG:=
 cB (k:=1) (g:=DX) Fn hmg hb abo rfl rfl λ cdv A outer s H E hr=>aby T gK hr
theorem ad9 {f:Addr} {cdv:Value} {A:Around} {outer:List PySem.Env} {s:Shared} {H:Hp} {E:XK} (T:Txt K mg) (sW:aY P w K mg base 2 "is_cell" 1 pG) (iW:aY P w K mg base 1 "is_line" 1 iV) (hr:Room 2 (A.deeper (envOfC "is_row" (defScope lB) s.heap.objs.size f cdv))):cW (cxOf CX0 P w K mg base ["thing"] "is_row" (defScope lB) f cdv A outer s H E).nox (defBody lB) Jk:=by
 exact (aX (bM (uR (bQ iW hr (by decide) (aj (dv 0) aA)) (zj (bf (Dn rfl) rfl T.uz boot_all (aj (cD ["cell"] [] rfl (by kernel_rfl) (by kernel_rfl) (eG (dv 0)) (bC (by decide)) (λ Z Z Z Z nd=>bO 0 nd) (λ Z Z Z Z=>cP) (λ Z Z Z Z=>(bQ sW hr (by decide) (aj (dv 0) aA)))) aA))))))
theorem aea {f:Addr} {fd:FuncData} (Fn:Fun K "is_row" "is_row" lB f fd) (hmg:mg "is_row" =some (.ref f)) (hb:Binds K fd ["thing"] []) (T:Txt K mg) (sW:aY P w K mg base 2 "is_cell" 1 pG) (iW:aY P w K mg base 1 "is_line" 1 iV):aY P w K mg base 3 "is_row" 1 qM:=
 cB (k:=2) (g:=Jk) Fn hmg hb ad8 rfl rfl λ cdv A outer s H E hr=>ad9 T sW iW hr
theorem Q8 {f:Addr} {cdv:Value} {A:Around} {outer:List PySem.Env} {s:Shared} {H:Hp} {E:XK} (T:Txt K mg) (iW:aY P w K mg base 1 "is_line" 1 iV) (vO:aY P w K mg base 3 "is_row" 1 qM) (hr:Room 3 (A.deeper (envOfC "is_picture" (defScope fM) s.heap.objs.size f cdv))):cW (cxOf CX0 P w K mg base ["thing"] "is_picture" (defScope fM) f cdv A outer s H E).nox (defBody fM) vC:=by
 exact (aU (fZ (DW.dt (J0 (uT (zc (bQ iW hr (by decide) (aj (dv 0) aA)))) (Dj (uT (zc (bf (Dn rfl) rfl T.uz boot_all (aj (cD ["row"] [] rfl (by kernel_rfl) (by kernel_rfl) (eG (dv 0)) (bC (by decide)) (λ Z Z Z Z nd=>bO 0 nd) (λ Z Z Z Z=>cP) (λ Z Z Z Z=>(bQ vO hr (by decide) (aj (dv 0) aA)))) aA))))))) (aX (bM JV)) dj) (aX (bM (bf (Dn rfl) rfl T.uz boot_all (aj (cD ["row"] [0] rfl (by kernel_rfl) (by kernel_rfl) (eG (dv 0)) (bC (by decide)) (λ Z Z Z Z nd=>bO 0 nd) (λ Z Z Z Z=>cP) (λ Z Z Z Z=>(JX (pO (fG hr)) (bf cJ rfl T.cR PySem.boot_len (aj (dv 0) aA)) (bf cJ rfl T.cR PySem.boot_len (aj (bW (dv 1) aJ) aA))))) aA)))))
theorem Q9 {f:Addr} {fd:FuncData} (Fn:Fun K "is_picture" "is_picture" fM f fd) (hmg:mg "is_picture" =some (.ref f)) (hb:Binds K fd ["thing"] []) (T:Txt K mg) (iW:aY P w K mg base 1 "is_line" 1 iV) (vO:aY P w K mg base 3 "is_row" 1 qM):aY P w K mg base 4 "is_picture" 1 j5:=
 cB (k:=3) (g:=vC) Fn hmg hb QM rfl rfl λ cdv A outer s H E hr=>Q8 T iW vO hr
theorem KN {f:Addr} {cdv:Value} {A:Around} {outer:List PySem.Env} {s:Shared} {H:Hp} {E:XK} (T:Txt K mg) (mZ:aY P w K mg base 4 "is_picture" 1 j5) (hr:Room 4 (A.deeper (envOfC "need_picture" (defScope dR) s.heap.objs.size f cdv))):cW (cxOf CX0 P w K mg base ["thing"] "need_picture" (defScope dR) f cdv A outer s H E).nox (defBody dR) qN:=by
 exact (aX (fZ (uT (zc (bQ mZ hr (by decide) (aj (dv 0) aA)))) (aX IV) dj))
theorem KQ {f:Addr} {fd:FuncData} (Fn:Fun K "need_picture" "need_picture" dR f fd) (hmg:mg "need_picture" =some (.ref f)) (hb:Binds K fd ["thing"] []) (T:Txt K mg) (mZ:aY P w K mg base 4 "is_picture" 1 j5):aY P w K mg base 5 "need_picture" 1 dN:=
 cB (k:=4) (g:=qN) Fn hmg hb Ku rfl rfl λ cdv A outer s H E hr=>KN T mZ hr
theorem abA {f:Addr} {cdv:Value} {A:Around} {outer:List PySem.Env} {s:Shared} {H:Hp} {E:XK} (T:Txt K mg) (dg:aY P w K mg base 5 "need_picture" 1 dN) (hr:Room 5 (A.deeper (envOfC "size_of" (defScope jJ) s.heap.objs.size f cdv))):cW (cxOf CX0 P w K mg base ["picture"] "size_of" (defScope jJ) f cdv A outer s H E).nox (defBody jJ) DY:=by
 exact (aU (Mx (bQ dg hr (by decide) (aj (dv 0) aA))) (aX (bM (dF (aj (bf cJ rfl T.cR PySem.boot_len (aj (bW (dv 0) aJ) aA)) (aj (bf cJ rfl T.cR PySem.boot_len (aj (dv 0) aA)) aA))))))
theorem abB {f:Addr} {fd:FuncData} (Fn:Fun K "size_of" "size_of" jJ f fd) (hmg:mg "size_of" =some (.ref f)) (hb:Binds K fd ["picture"] []) (T:Txt K mg) (dg:aY P w K mg base 5 "need_picture" 1 dN):aY P w K mg base 6 "size_of" 1 jE:=
 cB (k:=5) (g:=DY) Fn hmg hb abp rfl rfl λ cdv A outer s H E hr=>abA T dg hr
theorem aeb {f:Addr} {cdv:Value} {A:Around} {outer:List PySem.Env} {s:Shared} {H:Hp} {E:XK} (T:Txt K mg) (iY:aY P w K mg base 6 "size_of" 1 jE) (hr:Room 6 (A.deeper (envOfC "turned" (defScope lC) s.heap.objs.size f cdv))):cW (cxOf CX0 P w K mg base ["picture","wide","high"] "turned" (defScope lC) f cdv A outer s H E).nox (defBody lC) Jl:=by
 exact (aU (Mz 1 2 rfl Qu.nd (bQ iY hr (by decide) (aj (dv 0) aA))) (aX (bM (iu iw rfl T.dW boot_tuple (aj (cD ["x"] [2,0] rfl (by kernel_rfl) (by kernel_rfl) (gP rfl T.eU (aj (dv 1) aA)) (bC (by decide)) (λ Z Z Z Z nd=>bO 0 nd) (λ Z Z Z Z=>cP) (λ Z Z Z Z=>(iu iw rfl T.dW boot_tuple (aj (cD ["y"] [2,0] rfl (by kernel_rfl) (by kernel_rfl) (gP rfl T.eU (aj (dv 1) aA)) (bC (by decide)) (λ Z Z Z Z nd=>bO 0 nd) (λ Z Z Z Z=>cP) (λ Z Z Z Z=>(bW (bW (dv 1) (dv 0)) (dv 2)))) aA)))) aA)))))
theorem aec {f:Addr} {fd:FuncData} (Fn:Fun K "turned" "turned" lC f fd) (hmg:mg "turned" =some (.ref f)) (hb:Binds K fd ["picture"] []) (T:Txt K mg) (iY:aY P w K mg base 6 "size_of" 1 jE):aY P w K mg base 7 "turned" 1 qO:=
 cB (k:=6) (g:=Jl) Fn hmg hb Qu rfl rfl λ cdv A outer s H E hr=>aeb T iY hr
theorem aed {f:Addr} {cdv:Value} {A:Around} {outer:List PySem.Env} {s:Shared} {H:Hp} {E:XK} (T:Txt K mg) (mY:aY P w K mg base 1 "gaps" 1 oE) (iY:aY P w K mg base 6 "size_of" 1 jE) (vP:aY P w K mg base 7 "turned" 1 qO) (hr:Room 7 (A.deeper (envOfC "worths" (defScope lD) s.heap.objs.size f cdv))):cW (cxOf CX0 P w K mg base ["picture","wide","high","across","down"] "worths" (defScope lD) f cdv A outer s H E).nox (defBody lD) Jm:=by
 exact (aU (Mz 1 2 rfl w5.nd (bQ iY hr (by decide) (aj (dv 0) aA))) (aU (cg 3 w5.nd (cD ["row"] [] rfl (by kernel_rfl) (by kernel_rfl) (eG (dv 0)) (bC (by decide)) (λ Z Z Z Z nd=>bO 0 nd) (λ Z Z Z Z=>cP) (λ Z Z Z Z=>(bQ mY hr (by decide) (aj (dv 0) aA))))) (aU (cg 4 w5.nd (cD ["column"] [] rfl (by kernel_rfl) (by kernel_rfl) (eG (bQ vP hr (by decide) (aj (dv 0) aA))) (bC (by decide)) (λ Z Z Z Z nd=>bO 0 nd) (λ Z Z Z Z=>cP) (λ Z Z Z Z=>(bQ mY hr (by decide) (aj (dv 0) aA))))) (aX (bM (iu iw rfl T.dW boot_tuple (aj (cD ["y"] [3,4,1] rfl (by kernel_rfl) (by kernel_rfl) (gP rfl T.eU (aj (dv 2) aA)) (bC (by decide)) (λ Z Z Z Z nd=>bO 0 nd) (λ Z Z Z Z=>cP) (λ Z Z Z Z=>(iu iw rfl T.dW boot_tuple (aj (cD ["x"] [1,2,0] rfl (by kernel_rfl) (by kernel_rfl) (gP rfl T.eU (aj (dv 3) aA)) (bC (by decide)) (λ Z Z Z Z nd=>bO 0 nd) (λ Z Z Z Z=>cP) (λ Z Z Z Z=>(aW cu (bW (bW (dv 1) (dv 3)) (dv 0)) (bW (bW (dv 2) (dv 0)) (dv 3))))) aA)))) aA)))))))
theorem aee {f:Addr} {fd:FuncData} (Fn:Fun K "worths" "worths" lD f fd) (hmg:mg "worths" =some (.ref f)) (hb:Binds K fd ["picture"] []) (T:Txt K mg) (mY:aY P w K mg base 1 "gaps" 1 oE) (iY:aY P w K mg base 6 "size_of" 1 jE) (vP:aY P w K mg base 7 "turned" 1 qO):aY P w K mg base 8 "worths" 1 qP:=
 cB (k:=7) (g:=Jm) Fn hmg hb w5 rfl rfl λ cdv A outer s H E hr=>aed T mY iY vP hr
theorem afU {f:Addr} {cdv:Value} {A:Around} {outer:List PySem.Env} {s:Shared} {H:Hp} {E:XK} (T:Txt K mg) (m6:aY P w K mg base 2 "join_fares" 2 jZ) (vQ:aY P w K mg base 8 "worths" 1 qP) (hr:Room 8 (A.deeper (envOfC "fares" (defScope nG) s.heap.objs.size f cdv))):cW (cxOf CX0 P w K mg base ["picture","manner"] "fares" (defScope nG) f cdv A outer s H E).nox (defBody nG) Nh:=by
 exact (aU (fZ (cI (pO (fG hr)) (dv 1) Di) (aX (bM (cD ["row"] [] rfl (by kernel_rfl) (by kernel_rfl) (eG (bQ vQ hr (by decide) (aj (dv 0) aA))) (bC (by decide)) (λ Z Z Z Z nd=>bO 0 nd) (λ Z Z Z Z=>cP) (λ Z Z Z Z=>(cD ["worth"] [] rfl (by kernel_rfl) (by kernel_rfl) (eG (dv 0)) (bC (by decide)) (λ Z Z Z Z nd=>bO 0 nd) (λ Z Z Z Z=>cP) (λ Z Z Z Z=>(dF (aj (dv 0) (aj (dv 0) (aj (dv 0) aA)))))))))) dj) (aX (bM (cD ["y"] [0] rfl (by kernel_rfl) (by kernel_rfl) (gP rfl T.eU (aj (bf cJ rfl T.cR PySem.boot_len (aj (dv 0) aA)) aA)) (bC (by decide)) (λ Z Z Z Z nd=>bO 0 nd) (λ Z Z Z Z=>cP) (λ Z Z Z Z=>(bQ m6 hr (by decide) (aj (dv 1) (aj (dv 0) aA))))))))
theorem afV {f:Addr} {fd:FuncData} (Fn:Fun K "fares" "fares" nG f fd) (hmg:mg "fares" =some (.ref f)) (hb:Binds K fd ["picture","manner"] []) (T:Txt K mg) (m6:aY P w K mg base 2 "join_fares" 2 jZ) (vQ:aY P w K mg base 8 "worths" 1 qP):aY P w K mg base 9 "fares" 2 pH:=
 cB (k:=8) (g:=Nh) Fn hmg hb afT rfl rfl λ cdv A outer s H E hr=>afU T m6 vQ hr
theorem Ys {f:Addr} {cdv:Value} {A:Around} {outer:List PySem.Env} {s:Shared} {H:Hp} {E:XK} (T:Txt K mg)  (hr:Room 0 (A.deeper (envOfC "all_free" (defScope iM) s.heap.objs.size f cdv))):cW (cxOf CX0 P w K mg base ["picture"] "all_free" (defScope iM) f cdv A outer s H E).nox (defBody iM) Ay:=by
 obtain⟨ajG,Vy⟩:=T.zU
 exact (aX (bM (aW zG (dF (aj (aW zG (dF (aj (pq rfl Vy) aA)) (bf cJ rfl T.cR PySem.boot_len (aj (bW (dv 0) aJ) aA))) aA)) (bf cJ rfl T.cR PySem.boot_len (aj (dv 0) aA)))))
theorem Yt {f:Addr} {fd:FuncData} (Fn:Fun K "all_free" "all_free" iM f fd) (hmg:mg "all_free" =some (.ref f)) (hb:Binds K fd ["picture"] []) (T:Txt K mg)  :aY P w K mg base 1 "all_free" 1 pY:=
 cB (k:=0) (g:=Ay) Fn hmg hb Yi rfl rfl λ cdv A outer s H E hr=>Ys T  hr
theorem abC {f:Addr} {cdv:Value} {A:Around} {outer:List PySem.Env} {s:Shared} {H:Hp} {E:XK} (T:Txt K mg) (gK:aY P w K mg base 1 "is_whole" 1 gw) (hr:Room 1 (A.deeper (envOfC "is_mark" (defScope jK) s.heap.objs.size f cdv))):cW (cxOf CX0 P w K mg base ["thing"] "is_mark" (defScope jK) f cdv A outer s H E).nox (defBody jK) Ea:=by
 obtain⟨ajG,Vy⟩:=T.zU
 obtain⟨aef,Eu⟩:=T.vN
 exact (aX (bM (uR (bQ gK hr (by decide) (aj (dv 0) aA)) (zj (Iz Ad Ad (pq rfl Vy) (dv 0) (pq rfl Eu))))))
theorem abD {f:Addr} {fd:FuncData} (Fn:Fun K "is_mark" "is_mark" jK f fd) (hmg:mg "is_mark" =some (.ref f)) (hb:Binds K fd ["thing"] []) (T:Txt K mg) (gK:aY P w K mg base 1 "is_whole" 1 gw):aY P w K mg base 2 "is_mark" 1 pI:=
 cB (k:=1) (g:=Ea) Fn hmg hb abq rfl rfl λ cdv A outer s H E hr=>abC T gK hr
theorem KR {f:Addr} {cdv:Value} {A:Around} {outer:List PySem.Env} {s:Shared} {H:Hp} {E:XK} (T:Txt K mg) (sX:aY P w K mg base 2 "is_mark" 1 pI) (hr:Room 2 (A.deeper (envOfC "is_marks_row" (defScope dU) s.heap.objs.size f cdv))):cW (cxOf CX0 P w K mg base ["thing","wide"] "is_marks_row" (defScope dU) f cdv A outer s H E).nox (defBody dU) qQ:=by
 exact (aX (bM (uR (zq (ans:=kO) T.q9 (dv 0) rfl T.fU boot_isinstance rfl T.dW boot_tuple) (uR (JX (pO (fG hr)) (bf cJ rfl T.cR PySem.boot_len (aj (dv 0) aA)) (dv 1)) (zj (bf (Dn rfl) rfl T.uz boot_all (aj (cD ["mark"] [] rfl (by kernel_rfl) (by kernel_rfl) (eG (dv 0)) (bC (by decide)) (λ Z Z Z Z nd=>bO 0 nd) (λ Z Z Z Z=>cP) (λ Z Z Z Z=>(bQ sX hr (by decide) (aj (dv 0) aA)))) aA)))))))
theorem KY {f:Addr} {fd:FuncData} (Fn:Fun K "is_marks_row" "is_marks_row" dU f fd) (hmg:mg "is_marks_row" =some (.ref f)) (hb:Binds K fd ["thing","wide"] []) (T:Txt K mg) (sX:aY P w K mg base 2 "is_mark" 1 pI):aY P w K mg base 3 "is_marks_row" 2 jh:=
 cB (k:=2) (g:=qQ) Fn hmg hb Kv rfl rfl λ cdv A outer s H E hr=>KR T sX hr
theorem Yu {f:Addr} {cdv:Value} {A:Around} {outer:List PySem.Env} {s:Shared} {H:Hp} {E:XK} (T:Txt K mg) (kj:aY P w K mg base 3 "is_marks_row" 2 jh) (hr:Room 3 (A.deeper (envOfC "is_marks" (defScope iQ) s.heap.objs.size f cdv))):cW (cxOf CX0 P w K mg base ["thing","picture"] "is_marks" (defScope iQ) f cdv A outer s H E).nox (defBody iQ) Az:=by
 exact (aU (fZ (DW.dt (J0 (uT (zc (zq (ans:=kO) T.q9 (dv 0) rfl T.fU boot_isinstance rfl T.dW boot_tuple))) (Dj (cI (wX (fG hr)) (bf cJ rfl T.cR PySem.boot_len (aj (dv 0) aA)) (bf cJ rfl T.cR PySem.boot_len (aj (dv 1) aA)))))) (aX (bM JV)) dj) (aX (bM (bf (Dn rfl) rfl T.uz boot_all (aj (cD ["row"] [1] rfl (by kernel_rfl) (by kernel_rfl) (eG (dv 0)) (bC (by decide)) (λ Z Z Z Z nd=>bO 0 nd) (λ Z Z Z Z=>cP) (λ Z Z Z Z=>(bQ kj hr (by decide) (aj (dv 0) (aj (bf cJ rfl T.cR PySem.boot_len (aj (bW (dv 1) aJ) aA)) aA))))) aA)))))
theorem Yv {f:Addr} {fd:FuncData} (Fn:Fun K "is_marks" "is_marks" iQ f fd) (hmg:mg "is_marks" =some (.ref f)) (hb:Binds K fd ["thing","picture"] []) (T:Txt K mg) (kj:aY P w K mg base 3 "is_marks_row" 2 jh):aY P w K mg base 4 "is_marks" 2 nu:=
 cB (k:=3) (g:=Az) Fn hmg hb Yj rfl rfl λ cdv A outer s H E hr=>Yu T kj hr
theorem Ra {f:Addr} {cdv:Value} {A:Around} {outer:List PySem.Env} {s:Shared} {H:Hp} {E:XK} (T:Txt K mg) (qm:aY P w K mg base 1 "all_free" 1 pY) (qp:aY P w K mg base 4 "is_marks" 2 nu) (hr:Room 4 (A.deeper (envOfC "full_marks" (defScope fQ) s.heap.objs.size f cdv))):cW (cxOf CX0 P w K mg base ["thing","picture"] "full_marks" (defScope fQ) f cdv A outer s H E).nox (defBody fQ) vG:=by
 exact (aU (fZ (cI Hr (dv 0) jV) (aX (bM (bQ qm hr (by decide) (aj (dv 1) aA)))) dj) (aU (fZ (uT (zc (bQ qp hr (by decide) (aj (dv 0) (aj (dv 1) aA))))) (aX IV) dj) (aX (bM (dv 0)))))
theorem Rb {f:Addr} {fd:FuncData} (Fn:Fun K "full_marks" "full_marks" fQ f fd) (hmg:mg "full_marks" =some (.ref f)) (hb:Binds K fd ["thing","picture"] []) (T:Txt K mg) (qm:aY P w K mg base 1 "all_free" 1 pY) (qp:aY P w K mg base 4 "is_marks" 2 nu):aY P w K mg base 5 "full_marks" 2 j7:=
 cB (k:=4) (g:=vG) Fn hmg hb QS rfl rfl λ cdv A outer s H E hr=>Ra T qm qp hr
theorem abE {f:Addr} {cdv:Value} {A:Around} {outer:List PySem.Env} {s:Shared} {H:Hp} {E:XK} (T:Txt K mg)  (hr:Room 0 (A.deeper (envOfC "fare_of" (defScope jL) s.heap.objs.size f cdv))):cW (cxOf CX0 P w K mg base ["row","above","place"] "fare_of" (defScope jL) f cdv A outer s H E).nox (defBody jL) Eb:=by
 exact (aX (bM (bW (bW (dv 0) (dv 2)) (aW cu (aW dD (dv 1) (dv 2)) aJ))))
theorem abF {f:Addr} {fd:FuncData} (Fn:Fun K "fare_of" "fare_of" jL f fd) (hmg:mg "fare_of" =some (.ref f)) (hb:Binds K fd ["row","above","place"] []) (T:Txt K mg)  :aY P w K mg base 1 "fare_of" 3 gU:=
 cB (k:=0) (g:=Eb) Fn hmg hb abr rfl rfl λ cdv A outer s H E hr=>abE T  hr
theorem ahQ {f:Addr} {cdv:Value} {A:Around} {outer:List PySem.Env} {s:Shared} {H:Hp} {E:XK} (T:Txt K mg)  (hr:Room 0 (A.deeper (envOfC "near" (defScope qg) s.heap.objs.size f cdv))):cW (cxOf CX0 P w K mg base ["place","wide"] "near" (defScope qg) f cdv A outer s H E).nox (defBody qg) Uz:=by
 exact (aX (bM (afB rfl rfl T.Es rfl T.eU (aj (bf (zE rfl) rfl T.sE boot_max (aj (aW dD (dv 0) aJ) (aj aJ aA))) (aj (bf (Dt rfl) rfl T.uD boot_min (aj (aW cu (dv 0) aJ) (aj (dv 1) aA))) aA)))))
theorem ahR {f:Addr} {fd:FuncData} (Fn:Fun K "near" "near" qg f fd) (hmg:mg "near" =some (.ref f)) (hb:Binds K fd ["place","wide"] []) (T:Txt K mg)  :aY P w K mg base 1 "near" 2 zL:=
 cB (k:=0) (g:=Uz) Fn hmg hb ahN rfl rfl λ cdv A outer s H E hr=>ahQ T  hr
theorem aeg {f:Addr} {cdv:Value} {A:Around} {outer:List PySem.Env} {s:Shared} {H:Hp} {E:XK} (T:Txt K mg) (iZ:aY P w K mg base 1 "fare_of" 3 gU) (Ew:aY P w K mg base 1 "near" 2 zL) (hr:Room 1 (A.deeper (envOfC "onward" (defScope lE) s.heap.objs.size f cdv))):cW (cxOf CX0 P w K mg base ["beneath","row","x","told","place","fare"] "onward" (defScope lE) f cdv A outer s H E).nox (defBody lE) Jo:=by
 exact (aU (pA 3 sU.nd aA) (aU (nU PassesOwn.never rfl (eG (bQ Ew hr (by decide) (aj (dv 2) (aj (bf cJ rfl T.cR PySem.boot_len (aj (dv 0) aA)) aA)))) (qC 4 sU.nd) (aU (cg 5 sU.nd (bQ iZ hr (by decide) (aj (dv 1) (aj (dv 2) (aj (dv 4) aA))))) (aX (aaj 3 sU.nd (cD ["less","cost","rest"] [5] rfl (by kernel_rfl) (by kernel_rfl) (eG (bW (dv 0) (dv 4))) (jD (cA (bC (by decide)) (cA (bC (by decide)) (cA (bC (by decide)) jC)))) (λ Z Z Z Z nd=>pK rfl (cU (bO 0 nd) (cU (bO 1 nd) (cU (bO 2 nd) nq)))) (λ Z Z Z Z=>cP) (λ Z Z Z Z=>(dF (aj (dv 0) (aj (aW cu (dv 1) (dv 3)) (aj (dv 2) aA)))))))))) (aX (bM (dv 3)))))
theorem aeh {f:Addr} {fd:FuncData} (Fn:Fun K "onward" "onward" lE f fd) (hmg:mg "onward" =some (.ref f)) (hb:Binds K fd ["beneath","row","x"] []) (T:Txt K mg) (iZ:aY P w K mg base 1 "fare_of" 3 gU) (Ew:aY P w K mg base 1 "near" 2 zL):aY P w K mg base 2 "onward" 3 qR:=
 cB (k:=1) (g:=Jo) Fn hmg hb sU rfl rfl λ cdv A outer s H E hr=>aeg T iZ Ew hr
theorem afW {f:Addr} {cdv:Value} {A:Around} {outer:List PySem.Env} {s:Shared} {H:Hp} {E:XK} (T:Txt K mg) (vR:aY P w K mg base 2 "onward" 3 qR) {aG:Nat} {GG:List D->R D} (hG:Dw P w K mg base 1 GG 2 aG H) (hr:Room 2 (A.deeper (envOfC "swept" (defScope nH) s.heap.objs.size f cdv))):cW (cxOf CX0 P w K mg base ["table","marks","start","gather","rows","y","row","x","mark","told","lost"] "swept" (defScope nH) f cdv A outer s H E).nox (defBody nH) (Ni aG GG):=by
 obtain⟨aef,Eu⟩:=T.vN
 obtain⟨aoE,ajH⟩:=T.Ep
 exact (aU (pA 4 lF.nd aA) (aU (nU PassesOwn.never rfl (ahn rfl T.qj rfl T.eU (aj (bf cJ rfl T.cR PySem.boot_len (aj (dv 1) aA)) aA)) (qC 5 lF.nd) (aU (pA 6 lF.nd aA) (aU (nU PassesOwn.never rfl (uK rfl T.fj (aj (bW (dv 1) (dv 5)) aA)) (Hg 7 8 rfl lF.nd) (aU (fZ (cI (pO (fG hr)) (dv 8) (pq rfl ajH)) (aX (cg 9 lF.nd (mD aA))) (aX (fZ (uT (adC (dv 4))) (aX (cg 9 lF.nd (Uk 3 hG hr (by decide) (aj (dv 7) (aj (mD (aj (dF (aj aJ (aj aJ (aj (dv 2) aA)))) aA)) aA))))) (aX (cg 9 lF.nd (Uk 3 hG hr (by decide) (aj (dv 7) (aj (bQ vR hr (by decide) (aj (ajb 4 (zF aJ)) (aj (bW (dv 0) (aW cu (dv 5) aJ)) (aj (dv 7) aA)))) aA)))))))) (aU (cg 10 lF.nd (Tc (cI (pO (fG hr)) (dv 8) (pq rfl Eu)) aJ aJ)) (aX (zp 6 (cD ["less","cost","rest"] [10] rfl (by kernel_rfl) (by kernel_rfl) (eG (dv 9)) (jD (cA (bC (by decide)) (cA (bC (by decide)) (cA (bC (by decide)) jC)))) (λ Z Z Z Z nd=>pK rfl (cU (bO 0 nd) (cU (bO 1 nd) (cU (bO 2 nd) nq)))) (λ Z Z Z Z=>cP) (λ Z Z Z Z=>(dF (aj (aW dD (dv 0) (dv 3)) (aj (dv 1) (aj (dv 2) aA))))))))))) (aX (ahl 4 6 (by decide)))))) (aX (bM (ahk (dv 4))))))
theorem afX {f:Addr} {fd:FuncData} (Fn:Fun K "swept" "swept" nH f fd) (hmg:mg "swept" =some (.ref f)) (hb:Binds K fd ["table","marks","start","gather"] []) (T:Txt K mg) (vR:aY P w K mg base 2 "onward" 3 qR):FnS P w K mg base 3 "swept" 1 3 2 uL:=
 ⟨f,fd,["table","marks","start","gather"],fnS (k:=2) (m:=7) (g:=Ni) Fn lF rfl rfl λ cdv A outer s H E a G hr hG=>afW T vR hG hr,hmg,Fn.kp,hb⟩
theorem Rc {f c:Addr} {cdv:Value} {A:Around} {outer:List PySem.Env} {s:Shared} {H:Hp} (T:Txt K mg)  (hr:Room 0 (A.deeper (Aq "best_ways.<locals>.first_ones" (defScope jq) f cdv s "many" c))):cW (Ar P w K mg base ["x","told","many"] "best_ways.<locals>.first_ones" (defScope jq) f cdv A outer s H "many" c) (defBody jq) Ec:=by
 exact (aX (bM (cD ["less","cost","places"] [0] rfl (by kernel_rfl) (by kernel_rfl) (eG (Qh (bf (Ut (Uv hr)) rfl T.q8 boot_sorted (aj (dv 1) aA)) jP (jQ (dv 2)))) (jD (cA (bC (by decide)) (cA (bC (by decide)) (cA (bC (by decide)) jC)))) (λ Z Z Z Z nd=>pK rfl (cU (bO 0 nd) (cU (bO 1 nd) (cU (bO 2 nd) nq)))) (λ Z Z Z Z=>cP) (λ Z Z Z Z=>(dF (aj (dv 0) (aj (dv 1) (aj (aW cu (dF (aj (dv 3) aA)) (dv 2)) aA))))))))
theorem NT (T:Txt K mg)  (my:Int) (a c:Addr) (H:Hp) (co:Obj) (uy:Value) (fh:mQ H a "first_ones" "best_ways.<locals>.first_ones" (defArgs jq) (defBody jq) (defScope jq) [("many",c)]) (hc:H c=some (.frz co (.own c))) (hcd:co.data= .cell (some uy)) (hy:RelV (.int my) uy):Dw P w K mg base 1 (d8 my) 2 a H:=
 ai9 (k:=0) (m:=0) QT rfl rfl (λ Z Z Z Z Z us hl=>zT hl λ Z Z=>rfl) (λ cdv A outer s H f c hr=>Rc T  hr) fh hc hcd hy
theorem Vz {f cc TP:Addr} {A:Around} {outer:List PySem.Env} {s:Shared} {H:Hp} {E:XK} (T:Txt K mg) (zV:FnS P w K mg base 3 "swept" 1 3 2 uL)  (hB:rZ base mg cc TP) (hT:Tb [(TP,"best_ways.<locals>.first_ones")] H) (hr:Room 3 (A.deeper (envOfC "best_ways" (defScope eZ) s.heap.objs.size f (.ref cc)))):cW (cxOf CX0 P w K mg base ["table","marks","many","first_ones"] "best_ways" (defScope eZ) f (.ref cc) A outer s H E).nox (defBody eZ) xQ:=by
 refine bc λ zQ=>?_
 obtain⟨fS,Ul,Qg,Sw,hm,hk,hb⟩:=zV
 apply zQ;clear zQ
 exact afz (c:=s.heap.objs.size+1) (y:= "many") 3 2 En.nd hB hT rfl Sw (hr.mono (by decide)) hm hk hb (NT T ) (dv 0) (dv 1) (dF aA) rfl rfl rfl rfl (by decide) (.inl rfl)
theorem VB {f cc TP:Addr} {fd:FuncData} (Fn:Fun K "best_ways" "best_ways" eZ f fd) (hmg:mg "best_ways" =some (.ref f)) (T:Txt K mg) (zV:FnS P w K mg base 3 "swept" 1 3 2 uL)  (hB:rZ base mg cc TP) (hci:Dy K mg "best_ways" cc):nR P w K mg base 4 "best_ways" 3 oF fd ["table","marks","many"] [(TP,"best_ways.<locals>.first_ones")]:=by
 refine⟨f,fnT (k:=3) (m:=1) (g:=xQ) Fn En rfl rfl λ cdv A outer s H E hcd hr hT=>?_,hmg,Fn.kp⟩
 have e:fd.code= .ref cc:=by
  obtain⟨oc,od,kV,doc,pm,an,aoJ,ct,osl,e1,lk,_⟩:=Fn.ex
  exact hci f oc od fd osl hmg lk
 cases hcd.symm.trans e
 exact Vz T zV  hB hT hr
theorem Yw {f:Addr} {cdv:Value} {A:Around} {outer:List PySem.Env} {s:Shared} {H:Hp} {E:XK} (T:Txt K mg) (iZ:aY P w K mg base 1 "fare_of" 3 gU) (hr:Room 1 (A.deeper (envOfC "from_top" (defScope iR) s.heap.objs.size f cdv))):cW (cxOf CX0 P w K mg base ["table","rows","told","x","cell","fare"] "from_top" (defScope iR) f cdv A outer s H E).nox (defBody iR) Ba:=by
 exact (aU (pA 2 oG.nd aA) (aU (nU PassesOwn.never rfl (uK rfl T.fj (aj (bW (dv 1) aJ) aA)) (Hg 3 4 rfl oG.nd) (aU (cg 5 oG.nd (bQ iZ hr (by decide) (aj (bW (dv 0) aJ) (aj (dv 3) (aj (dv 3) aA))))) (aX (aaj 2 oG.nd (cD ["less","cost","rest"] [5] rfl (by kernel_rfl) (by kernel_rfl) (eG (dv 4)) (jD (cA (bC (by decide)) (cA (bC (by decide)) (cA (bC (by decide)) jC)))) (λ Z Z Z Z nd=>pK rfl (cU (bO 0 nd) (cU (bO 1 nd) (cU (bO 2 nd) nq)))) (λ Z Z Z Z=>cP) (λ Z Z Z Z=>(dF (aj (dv 0) (aj (aW cu (dv 1) (dv 3)) (aj (dv 2) aA)))))))))) (aX (bM (dv 2)))))
theorem Yx {f:Addr} {fd:FuncData} (Fn:Fun K "from_top" "from_top" iR f fd) (hmg:mg "from_top" =some (.ref f)) (hb:Binds K fd ["table","rows"] []) (T:Txt K mg) (iZ:aY P w K mg base 1 "fare_of" 3 gU):aY P w K mg base 2 "from_top" 2 nA:=
 cB (k:=1) (g:=Ba) Fn hmg hb oG rfl rfl λ cdv A outer s H E hr=>Yw T iZ hr
theorem NZ {f:Addr} {cdv:Value} {A:Around} {outer:List PySem.Env} {s:Shared} {H:Hp} {E:XK} (T:Txt K mg) {m7:List (Addr×Str)} {m8:FuncData} (oR:nR P w K mg base 4 "best_ways" 3 oF m8 ["table","marks","many"] m7) (oU:Binds K m8 ["table","marks","many"] []) (qu:aY P w K mg base 2 "from_top" 2 nA) (hT:Tb m7 H) (hr:Room 4 (A.deeper (envOfC "first_seams" (defScope eE) s.heap.objs.size f cdv))):cW (cxOf CX0 P w K mg base ["table","marks","many"] "first_seams" (defScope eE) f cdv A outer s H E).nox (defBody eE) tE:=by
 exact (aX (bM (Qh (bf (Ut (Uv hr)) rfl T.q8 boot_sorted (aj (bQ qu hr (by decide) (aj (dv 0) (aj (Uj oR hT hr (by decide) oU (aj (dv 0) (aj (dv 1) (aj (dv 2) aA)))) aA))) aA)) jP (jQ (dv 2)))))
theorem N5 {f:Addr} {fd:FuncData} (Fn:Fun K "first_seams" "first_seams" eE f fd) (hmg:mg "first_seams" =some (.ref f)) (T:Txt K mg) {m7:List (Addr×Str)} {m8:FuncData} (oR:nR P w K mg base 4 "best_ways" 3 oF m8 ["table","marks","many"] m7) (oU:Binds K m8 ["table","marks","many"] []) (qu:aY P w K mg base 2 "from_top" 2 nA):nR P w K mg base 5 "first_seams" 3 lK fd ["table","marks","many"] m7:=
 ⟨f,fnT (k:=4) (m:=0) (g:=tE) Fn Nz rfl rfl λ cdv A outer s H E Z hr hT=>NZ T oR oU qu hT hr,hmg,Fn.kp⟩
theorem VD {f:Addr} {cdv:Value} {A:Around} {outer:List PySem.Env} {s:Shared} {H:Hp} {E:XK} (T:Txt K mg) {m7:List (Addr×Str)} {kI:FuncData} (lO:nR P w K mg base 5 "first_seams" 3 lK kI ["table","marks","many"] m7) (lQ:Binds K kI ["table","marks","many"] []) (hT:Tb m7 H) (hr:Room 5 (A.deeper (envOfC "least_way" (defScope gJ) s.heap.objs.size f cdv))):cW (cxOf CX0 P w K mg base ["table","marks","found","less","cost","seam"] "least_way" (defScope gJ) f cdv A outer s H E).nox (defBody gJ) xR:=by
 exact (aU (cg 2 vM.nd (Uj lO hT hr (by decide) lQ (aj (dv 0) (aj (dv 1) (aj aJ aA))))) (aU (fZ (uT (adC (dv 2))) (aX (bM jV)) dj) (aU (ahq 3 4 5 rfl vM.nd (bW (dv 2) aJ)) (aX (bM (dF (aj (dv 4) (aj (dv 5) aA))))))))
theorem VF {f:Addr} {fd:FuncData} (Fn:Fun K "least_way" "least_way" gJ f fd) (hmg:mg "least_way" =some (.ref f)) (T:Txt K mg) {m7:List (Addr×Str)} {kI:FuncData} (lO:nR P w K mg base 5 "first_seams" 3 lK kI ["table","marks","many"] m7) (lQ:Binds K kI ["table","marks","many"] []):nR P w K mg base 6 "least_way" 2 lY fd ["table","marks"] m7:=
 ⟨f,fnT (k:=5) (m:=4) (g:=xR) Fn vM rfl rfl λ cdv A outer s H E Z hr hT=>VD T lO lQ hT hr,hmg,Fn.kp⟩
theorem N6 {f:Addr} {cdv:Value} {A:Around} {outer:List PySem.Env} {s:Shared} {H:Hp} {E:XK} (T:Txt K mg)  (hr:Room 0 (A.deeper (envOfC "need_manner" (defScope eF) s.heap.objs.size f cdv))):cW (cxOf CX0 P w K mg base ["thing"] "need_manner" (defScope eF) f cdv A outer s H E).nox (defBody eF) tH:=by
 exact (aX (fZ (cI afn (dv 0) (ahd (ss:=["worth","joins"]) rfl T.sV) (by rfl)) (aX IV) dj))
theorem N7 {f:Addr} {fd:FuncData} (Fn:Fun K "need_manner" "need_manner" eF f fd) (hmg:mg "need_manner" =some (.ref f)) (hb:Binds K fd ["thing"] []) (T:Txt K mg)  :aY P w K mg base 1 "need_manner" 1 jB:=
 cB (k:=0) (g:=tH) Fn hmg hb NK rfl rfl λ cdv A outer s H E hr=>N6 T  hr
theorem abG {f:Addr} {cdv:Value} {A:Around} {outer:List PySem.Env} {s:Shared} {H:Hp} {E:XK} (T:Txt K mg)  (hr:Room 0 (A.deeper (envOfC "without" (defScope jM) s.heap.objs.size f cdv))):cW (cxOf CX0 P w K mg base ["rows","seam"] "without" (defScope jM) f cdv A outer s H E).nox (defBody jM) Ed:=by
 exact (aX (bM (iu iw rfl T.dW boot_tuple (aj (cD ["row","place"] [] rfl (by kernel_rfl) (by kernel_rfl) (M5 rfl T.Bh (aj (dv 0) (aj (dv 1) aA))) (jD (cA (bC (by decide)) (cA (bC (by decide)) jC))) (λ Z Z Z Z nd=>pK rfl (cU (bO 0 nd) (cU (bO 1 nd) nq))) (λ Z Z Z Z=>cP) (λ Z Z Z Z=>(aW cu (mO (dv 0) jP (jQ (dv 1))) (mO (dv 0) (jQ (aW cu (dv 1) aJ)) jP)))) aA))))
theorem abH {f:Addr} {fd:FuncData} (Fn:Fun K "without" "without" jM f fd) (hmg:mg "without" =some (.ref f)) (hb:Binds K fd ["rows","seam"] []) (T:Txt K mg)  :aY P w K mg base 1 "without" 2 mU:=
 cB (k:=0) (g:=Ed) Fn hmg hb abt rfl rfl λ cdv A outer s H E hr=>abG T  hr
theorem abI {f:Addr} {cdv:Value} {A:Around} {outer:List PySem.Env} {s:Shared} {H:Hp} {E:XK} (T:Txt K mg) {m7:List (Addr×Str)} (zW:aY P w K mg base 9 "fares" 2 pH) (m9:aY P w K mg base 5 "full_marks" 2 j7) {ni:FuncData} (oV:nR P w K mg base 6 "least_way" 2 lY ni ["table","marks"] m7) (oW:Binds K ni ["table","marks"] []) (lR:aY P w K mg base 1 "need_manner" 1 jB) (dg:aY P w K mg base 5 "need_picture" 1 dN) (pJ:aY P w K mg base 1 "without" 2 mU) (hT:Tb m7 H) (hr:Room 9 (A.deeper (envOfC "cleared" (defScope dI) s.heap.objs.size f cdv))):cW (cxOf CX0 P w K mg base ["picture","marks","manner","left","marked","seams","found","cost","seam"] "cleared" (defScope dI) f cdv A outer s H E).nox (defBody dI) Ef:=by
 obtain⟨aef,Eu⟩:=T.vN
 exact (aU (Mx (bQ dg hr (by decide) (aj (dv 0) aA))) (aU (Mx (bQ lR hr (by decide) (aj (dv 2) aA))) (aU (Dr 3 4 rfl nJ.nd (dv 0) (bQ m9 hr (by decide) (aj (dv 1) (aj (dv 0) aA)))) (aU (pA 5 nJ.nd aA) (aU (IW 64 PassesOwn.never (zc (bf (aje rfl) rfl T.Kw boot_any (aj (cD ["row"] [] rfl (by kernel_rfl) (by kernel_rfl) (eG (dv 4)) (bC (by decide)) (λ Z Z Z Z nd=>bO 0 nd) (λ Z Z Z Z=>cP) (λ Z Z Z Z=>(JX agM (pq rfl Eu) (dv 0) (by rfl)))) aA))) (aU (cg 6 nJ.nd (Uj oV hT hr (by decide) oW (aj (bQ zW hr (by decide) (aj (dv 3) (aj (dv 2) aA))) (aj (dv 4) aA)))) (aU (fZ (DW.dt (J0 (cI Hr (dv 6) jV) (Dj (cI (pO (fG hr)) (bf cJ rfl T.cR PySem.boot_len (aj (bW (dv 3) aJ) aA)) aJ)))) (aX (bM jV)) dj) (aU (Mz 7 8 rfl nJ.nd (dv 6)) (aU (zp 5 (dv 8)) (aX (Dr 3 4 rfl nJ.nd (bQ pJ hr (by decide) (aj (dv 3) (aj (dv 8) aA))) (bQ pJ hr (by decide) (aj (dv 4) (aj (dv 8) aA)))))))))) (aX (bM (dv 5))))))))
theorem abJ {f:Addr} {fd:FuncData} (Fn:Fun K "cleared" "cleared" dI f fd) (hmg:mg "cleared" =some (.ref f)) (T:Txt K mg) {m7:List (Addr×Str)} (zW:aY P w K mg base 9 "fares" 2 pH) (m9:aY P w K mg base 5 "full_marks" 2 j7) {ni:FuncData} (oV:nR P w K mg base 6 "least_way" 2 lY ni ["table","marks"] m7) (oW:Binds K ni ["table","marks"] []) (lR:aY P w K mg base 1 "need_manner" 1 jB) (dg:aY P w K mg base 5 "need_picture" 1 dN) (pJ:aY P w K mg base 1 "without" 2 mU):nR P w K mg base 10 "cleared" 3 fW fd ["picture","marks","manner"] m7:=
 ⟨f,fnT (k:=9) (m:=6) (g:=Ef) Fn nJ rfl rfl λ cdv A outer s H E Z hr hT=>abI T zW m9 oV oW lR dg pJ hT hr,hmg,Fn.kp⟩
theorem ajI {f:Addr} {cdv:Value} {A:Around} {outer:List PySem.Env} {s:Shared} {H:Hp} {E:XK} (T:Txt K mg) {m7:List (Addr×Str)} (bK:aY P w K mg base 1 "_law_drawn" 3 bU) (nO:aY P w K mg base 5 "_law_due" 3 iH) (mj:aY P w K mg base 1 "_law_free" 1 eY) (lU:aY P w K mg base 2 "_law_manner" 2 jA) (nj:aY P w K mg base 2 "_law_marks" 3 jY) (oX:aY P w K mg base 3 "_law_some" 4 lX) {lG:FuncData} (kZ:nR P w K mg base 10 "cleared" 3 fW lG ["picture","marks","manner"] m7) {iC:Tok} (gM:KB K lG ["picture","marks","manner"] [] [.inr (.str "worth" iC)]) (jT:KB K lG ["picture","marks","manner"] ["manner"] [.inl 0]) (hT:Tb m7 H) (hr:Room 10 (A.deeper (envOfC "law" (defScope oZ) s.heap.objs.size f cdv))):cW (cxOf CX0 P w K mg base ["_law_script","_law_picture_here","_law_tags","_law_mode","_law_y","_law_x"] "law" (defScope oZ) f cdv A outer s H E).nox (defBody oZ) aa8:=by
 exact (aU (cg 1 Eo.nd (bQ oX hr (by decide) (aj (dv 0) (aj aJ (aj aJ (aj aJ aA)))))) (aU (Dr 2 3 rfl Eo.nd (bQ nj hr (by decide) (aj (dv 0) (aj aJ (aj (dv 1) aA)))) (bQ lU hr (by decide) (aj (dv 0) (aj aJ aA)))) (aU (fZ (cI (pO (fG hr)) (bQ bK hr (by decide) (aj (dv 0) (aj aJ (aj aJ aA)))) aJ) (aU (Dr 4 5 rfl Eo.nd (bQ bK hr (by decide) (aj (dv 0) (aj aJ (aj (bf cJ rfl T.cR PySem.boot_len (aj (dv 1) aA)) aA)))) (bQ bK hr (by decide) (aj (dv 0) (aj aJ (aj (bf cJ rfl T.cR PySem.boot_len (aj (bW (dv 1) aJ) aA)) aA))))) (aX (cg 2 Eo.nd (aW cu (aW cu (mO (dv 2) jP (jQ (dv 4))) (dF (aj (aW cu (aW cu (mO (bW (dv 2) (dv 4)) jP (jQ (dv 5))) (dF (aj aJ aA))) (mO (bW (dv 2) (dv 4)) (jQ (aW cu (dv 5) aJ)) jP)) aA))) (mO (dv 2) (jQ (aW cu (dv 4) aJ)) jP))))) dj) (aU (fZ (cI (wX (fG hr)) (ahg (ks:=["manner"]) (.at 0 .nil) kZ hT hr (by decide) jT (aj (dv 1) (aj (dv 2) aA)) (ag7 (dv 3) aiZ)) (bQ nO hr (by decide) (aj (dv 1) (aj (dv 2) (aj (dv 3) aA))))) (aX (bM JV)) dj) (aU (fZ (cI (wX (fG hr)) (M6 (.str _ _ .nil) kZ hT hr (by decide) gM (aj (dv 1) (aj (dv 2) aA))) (bQ nO hr (by decide) (aj (dv 1) (aj (dv 2) (aj Di aA))))) (aX (bM JV)) dj) (aU (fZ (cI (wX (fG hr)) (M6 (.str _ _ .nil) kZ hT hr (by decide) gM (aj (dv 1) (aj (bQ mj hr (by decide) (aj (dv 1) aA)) aA))) (mD aA)) (aX (bM JV)) dj) (aX (bM (JX Hr (M6 (.str _ _ .nil) kZ hT hr (by decide) gM (aj (dv 1) (aj (aW cu (dF (aj (aW zG (dF (aj aJ aA)) (bf cJ rfl T.cR PySem.boot_len (aj (bW (dv 1) aJ) aA))) aA)) (mO (bQ mj hr (by decide) (aj (dv 1) aA)) (jQ aJ) jP)) aA))) jV)))))))))
theorem ok_law {f:Addr} {fd:FuncData} (Fn:Fun K "law" "law" oZ f fd) (hmg:mg "law" =some (.ref f)) (T:Txt K mg) {m7:List (Addr×Str)} (bK:aY P w K mg base 1 "_law_drawn" 3 bU) (nO:aY P w K mg base 5 "_law_due" 3 iH) (mj:aY P w K mg base 1 "_law_free" 1 eY) (lU:aY P w K mg base 2 "_law_manner" 2 jA) (nj:aY P w K mg base 2 "_law_marks" 3 jY) (oX:aY P w K mg base 3 "_law_some" 4 lX) {lG:FuncData} (kZ:nR P w K mg base 10 "cleared" 3 fW lG ["picture","marks","manner"] m7) {iC:Tok} (gM:KB K lG ["picture","marks","manner"] [] [.inr (.str "worth" iC)]) (jT:KB K lG ["picture","marks","manner"] ["manner"] [.inl 0]):nR P w K mg base 11 "law" 1 Kh fd ["_law_script"] m7:=
 ⟨f,fnT (k:=10) (m:=5) (g:=aa8) Fn Eo rfl rfl λ cdv A outer s H E Z hr hT=>ajI T bK nO mj lU nj oX kZ gM jT hT hr,hmg,Fn.kp⟩
end
theorem all_mk {l:PySem.W.OpenLaw} {w:World} {K:PySem.W.Frag} {h:Heap} {mg:Str->Option Value} {fa vU Ey xU xV vV xW xX Bj Bk xY tK vW rm xZ VG vX Ez Bl EY Js vY rA Fb Jt Ju N8 Bm Fd rC Bo vZ Fe VH Jv Oa yc Bp tL yd tM Fg Fi abK:Addr} (X:K.In h) (G:h.Ns mainGlobals mg) (hfa:mg "law" =some (.ref fa))
  {Rf Rg:Option Addr} {Rh:Array (Option Value)} {Ri Rj Rk Rn CJ Ro:Value}
  {abL abM:Option Addr} {abN:Array (Option Value)} {abO abP abQ abR KZ abS:Value}
  {VJ VL:Option Addr} {VN:Array (Option Value)} {VP VR V0 V1 Fj V2:Value}
  {V3 V4:Option Addr} {V5:Array (Option Value)} {V6 V7 V8 V9 Fl Wa:Value}
  {Rp Rq:Option Addr} {Rr:Array (Option Value)} {Rt Ru Rv Rw CK Rx:Value}
  {Wb Wc:Option Addr} {Wd:Array (Option Value)} {Wf Wg Wh Wi Fo Wj:Value}
  {Wk Wm:Option Addr} {Wn:Array (Option Value)} {Wo Wq Wr Ws Fp Wt:Value}
  {Yy Yz:Option Addr} {YB:Array (Option Value)} {YC YD YF YG HY YH:Value}
  {YJ YK:Option Addr} {YL:Array (Option Value)} {YM YQ YS YT Ia YW:Value}
  {Wu Wv:Option Addr} {Ww:Array (Option Value)} {Wx Wz WD WK Fq WL:Value}
  {Oc Od:Option Addr} {Oe:Array (Option Value)} {Og Oh Oi Oj zX Ol:Value}
  {Ry Rz:Option Addr} {RB:Array (Option Value)} {RD RG RJ RK CN RL:Value}
  {K1 K3:Option Addr} {K4:Array (Option Value)} {K5 K6 K7 K8 w6 K9:Value}
  {WM WQ:Option Addr} {WR:Array (Option Value)} {WT WW WX WY Ft W0:Value}
  {ahS ahT:Option Addr} {ahU:Array (Option Value)} {ahV ahW ahX ahY aaA ahZ:Value}
  {RM RN:Option Addr} {RP:Array (Option Value)} {RQ RT RV RW CP RX:Value}
  {abT abU:Option Addr} {abV:Array (Option Value)} {abW abX abY abZ La ab0:Value}
  {YX YZ:Option Addr} {Y0:Array (Option Value)} {Y4 Y5 Y6 Y7 Ib Y8:Value}
  {ab1 ab2:Option Addr} {ab3:Array (Option Value)} {ab4 ab5 ab6 ab7 Lb ab8:Value}
  {aei aej:Option Addr} {aek:Array (Option Value)} {ael aem aen aeo Qv aep:Value}
  {RZ R0:Option Addr} {R3:Array (Option Value)} {R4 R5 R6 R7 CQ R8:Value}
  {Ld Le:Option Addr} {Lf:Array (Option Value)} {Lg Lh Li Lj xg Ln:Value}
  {ab9 acd:Option Addr} {ace:Array (Option Value)} {acf acg ach aci Lp acj:Value}
  {aer aes:Option Addr} {aeu:Array (Option Value)} {aev aew aex aey Qw aez:Value}
  {aeA aeB:Option Addr} {aeC:Array (Option Value)} {aeD aeE aeF aeG Qx aeH:Value}
  {afY afZ:Option Addr} {af0:Array (Option Value)} {af2 af3 af4 af5 W2 af6:Value}
  {Y9 Za:Option Addr} {Zb:Array (Option Value)} {Zc Zd Ze Zf Ie Zg:Value}
  {acn aco:Option Addr} {acp:Array (Option Value)} {acq acr acs acu Lq acv:Value}
  {Lr Ls:Option Addr} {Lw:Array (Option Value)} {Ly Lz LC LK xq LQ:Value}
  {Zh Zi:Option Addr} {Zj:Array (Option Value)} {Zk Zm Zn Zo Ih Zq:Value}
  {R9 Sd:Option Addr} {Sh:Array (Option Value)} {Ss Sv Sx Sy CV SJ:Value}
  {acw acy:Option Addr} {acz:Array (Option Value)} {acA acB acC acD LR acE:Value}
  {ah0 ah1:Option Addr} {ah2:Array (Option Value)} {ah3 ah4 ah5 ah6 aaB ah7:Value}
  {aeI aeJ:Option Addr} {aeK:Array (Option Value)} {aeL aeM aeN aeO Qy aeP:Value}
  {af7 af8:Option Addr} {af9:Array (Option Value)} {aga agb agc agd W3 agf:Value}
  {W4 W5:Option Addr} {W6:Array (Option Value)} {W7 W8 W9 Xa Fv Xb:Value}
  {Zr Zt:Option Addr} {Zu:Array (Option Value)} {Zv Zw Zx Zy Ii Zz:Value}
  {Om Oo:Option Addr} {Oq:Array (Option Value)} {Ot Ou Ov Ow zY Ox:Value}
  {Xc Xd:Option Addr} {Xe:Array (Option Value)} {Xf Xg Xh Xi Fw Xj:Value}
  {Oz OD:Option Addr} {OJ:Array (Option Value)} {O5 O6 O7 O8 zZ O9:Value}
  {acF acG:Option Addr} {acH:Array (Option Value)} {acI acJ acK acL Ma acM:Value}
  {acN Bq:Option Addr} {acO:Array (Option Value)} {acP Br Bs Bt uE Bu:Value}
  {ajJ aeQ:Option Addr} {ajK:Array (Option Value)} {ajL aeR aeS aeT Xk aeU:Value}
  {ah8:Tok} (zU:PySem.W.nsIn K mainGlobals "FREE" =some (some (.int 0 ah8)))
  {ah9:Tok} (vN:PySem.W.nsIn K mainGlobals "GONE" =some (some (.int 2 ah9)))
  {aia:Tok} (Ep:PySem.W.nsIn K mainGlobals "KEPT" =some (some (.int 1 aia)))
  {Xl:Tok} (oH:PySem.W.nsIn K mainGlobals "MOST_CELL" =some (some (.int 99 Xl)))
  {Xm:Tok} (oJ:PySem.W.nsIn K mainGlobals "MOST_LONG" =some (some (.int 20 Xm)))
  {Mf:Addr} {acQ:Option Addr} {acR:Nat} {acS:Array (Option Value)} {Xn Xo:Tok} (sV:PySem.W.nsIn K mainGlobals "MANNERS" =some (some (.ref Mf))) (Fx:K.lookup Mf=some ⟨.type "tuple",acQ,.seq #[.str "worth" Xn,.str "joins" Xo] acR,acS⟩)
  (sy:PySem.W.nsIn K mainGlobals "abs" =some none)
  (uz:PySem.W.nsIn K mainGlobals "all" =some none)
  (Kw:PySem.W.nsIn K mainGlobals "any" =some none)
  (Er:PySem.W.nsIn K mainGlobals "bool" =some none)
  (fj:PySem.W.nsIn K mainGlobals "enumerate" =some none)
  (Ky:PySem.W.nsIn K mainGlobals "int" =some none)
  (fU:PySem.W.nsIn K mainGlobals "isinstance" =some none)
  (cR:PySem.W.nsIn K mainGlobals "len" =some none)
  (Es:PySem.W.nsIn K mainGlobals "list" =some none)
  (sE:PySem.W.nsIn K mainGlobals "max" =some none)
  (uD:PySem.W.nsIn K mainGlobals "min" =some none)
  (eU:PySem.W.nsIn K mainGlobals "range" =some none)
  (qj:PySem.W.nsIn K mainGlobals "reversed" =some none)
  (q8:PySem.W.nsIn K mainGlobals "sorted" =some none)
  (Kz:PySem.W.nsIn K mainGlobals "sum" =some none)
  (dW:PySem.W.nsIn K mainGlobals "tuple" =some none)
  (Bh:PySem.W.nsIn K mainGlobals "zip" =some none)
  (KC:∀d:D,PySem.W.kitOne K (.type (mK d)) (.type "int")=some (Hj (mK d)))
  (Et:∀d:D,PySem.W.kitOne K (.type (mK d)) (.type "bool")=some (Al (mK d)))
  (q9:∀d:D,PySem.W.kitOne K (.type (mK d)) (.type "tuple")=some (kO (mK d)))
  (KD:∀d:D,PySem.W.kitOne K (.type (mK d)) (.type "list")=some (T5 (mK d)))
  (v7:PySem.W.nsIn K mainGlobals "_law_drawn" =some (some (.ref vU))) (v9:K.lookup vU=some ⟨Ri,Rf,.func (PySem.W.fnOf "_law_drawn" "_law_drawn" (defArgs fH) (defBody fH) (defScope fH) .none Rj Rk Rn Rg CJ Ro),Rh⟩) (wg:PySem.W.codeIn K CJ "_law_drawn" =true) (wj:PySem.W.keepIn K (.ref vU)=true)
  (Fy:PySem.W.nsIn K mainGlobals "_law_at" =some (some (.ref Ey))) (Fz:K.lookup Ey=some ⟨abO,abL,.func (PySem.W.fnOf "_law_at" "_law_at" (defArgs jF) (defBody jF) (defScope jF) .none abP abQ abR abM KZ abS),abN⟩) (FJ:PySem.W.codeIn K KZ "_law_at" =true) (FN:PySem.W.keepIn K (.ref Ey)=true)
  (yg:PySem.W.nsIn K mainGlobals "_law_step" =some (some (.ref xU))) (yh:K.lookup xU=some ⟨VP,VJ,.func (PySem.W.fnOf "_law_step" "_law_step" (defArgs gB) (defBody gB) (defScope gB) .none VR V0 V1 VL Fj V2),VN⟩) (yj:PySem.W.codeIn K Fj "_law_step" =true) (yp:PySem.W.keepIn K (.ref xU)=true)
  (yq:PySem.W.nsIn K mainGlobals "_law_cost" =some (some (.ref xV))) (yt:K.lookup xV=some ⟨V6,V3,.func (PySem.W.fnOf "_law_cost" "_law_cost" (defArgs gC) (defBody gC) (defScope gC) .none V7 V8 V9 V4 Fl Wa),V5⟩) (yu:PySem.W.codeIn K Fl "_law_cost" =true) (yw:PySem.W.keepIn K (.ref xV)=true)
  (wk:PySem.W.nsIn K mainGlobals "_law_signs" =some (some (.ref vV))) (wu:K.lookup vV=some ⟨Rt,Rp,.func (PySem.W.fnOf "_law_signs" "_law_signs" (defArgs fJ) (defBody fJ) (defScope fJ) .none Ru Rv Rw Rq CK Rx),Rr⟩) (wz:PySem.W.codeIn K CK "_law_signs" =true) (wA:PySem.W.keepIn K (.ref vV)=true)
  (yx:PySem.W.nsIn K mainGlobals "_law_ways" =some (some (.ref xW))) (yC:K.lookup xW=some ⟨Wf,Wb,.func (PySem.W.fnOf "_law_ways" "_law_ways" (defArgs gD) (defBody gD) (defScope gD) .none Wg Wh Wi Wc Fo Wj),Wd⟩) (yD:PySem.W.codeIn K Fo "_law_ways" =true) (yE:PySem.W.keepIn K (.ref xW)=true)
  (yF:PySem.W.nsIn K mainGlobals "_law_best" =some (some (.ref xX))) (yG:K.lookup xX=some ⟨Wo,Wk,.func (PySem.W.fnOf "_law_best" "_law_best" (defArgs gF) (defBody gF) (defScope gF) .none Wq Wr Ws Wm Fp Wt),Wn⟩) (yH:PySem.W.codeIn K Fp "_law_best" =true) (yI:PySem.W.keepIn K (.ref xX)=true)
  (Bv:PySem.W.nsIn K mainGlobals "_law_cut" =some (some (.ref Bj))) (Bw:K.lookup Bj=some ⟨YC,Yy,.func (PySem.W.fnOf "_law_cut" "_law_cut" (defArgs iI) (defBody iI) (defScope iI) .none YD YF YG Yz HY YH),YB⟩) (Bx:PySem.W.codeIn K HY "_law_cut" =true) (BJ:PySem.W.keepIn K (.ref Bj)=true)
  (BK:PySem.W.nsIn K mainGlobals "_law_due" =some (some (.ref Bk))) (BL:K.lookup Bk=some ⟨YM,YJ,.func (PySem.W.fnOf "_law_due" "_law_due" (defArgs iJ) (defBody iJ) (defScope iJ) .none YQ YS YT YK Ia YW),YL⟩) (BP:PySem.W.codeIn K Ia "_law_due" =true) (BR:PySem.W.keepIn K (.ref Bk)=true)
  (yJ:PySem.W.nsIn K mainGlobals "_law_free" =some (some (.ref xY))) (yK:K.lookup xY=some ⟨Wx,Wu,.func (PySem.W.fnOf "_law_free" "_law_free" (defArgs gG) (defBody gG) (defScope gG) .none Wz WD WK Wv Fq WL),Ww⟩) (yL:PySem.W.codeIn K Fq "_law_free" =true) (yM:PySem.W.keepIn K (.ref xY)=true)
  (tO:PySem.W.nsIn K mainGlobals "_law_manner" =some (some (.ref tK))) (tQ:K.lookup tK=some ⟨Og,Oc,.func (PySem.W.fnOf "_law_manner" "_law_manner" (defArgs d9) (defBody d9) (defScope d9) .none Oh Oi Oj Od zX Ol),Oe⟩) (tR:PySem.W.codeIn K zX "_law_manner" =true) (tU:PySem.W.keepIn K (.ref tK)=true)
  (wB:PySem.W.nsIn K mainGlobals "_law_marks" =some (some (.ref vW))) (wC:K.lookup vW=some ⟨RD,Ry,.func (PySem.W.fnOf "_law_marks" "_law_marks" (defArgs fK) (defBody fK) (defScope fK) .none RG RJ RK Rz CN RL),RB⟩) (wD:PySem.W.codeIn K CN "_law_marks" =true) (wF:PySem.W.keepIn K (.ref vW)=true)
  (rE:PySem.W.nsIn K mainGlobals "_law_picture" =some (some (.ref rm))) (rF:K.lookup rm=some ⟨K5,K1,.func (PySem.W.fnOf "_law_picture" "_law_picture" (defArgs dO) (defBody dO) (defScope dO) .none K6 K7 K8 K3 w6 K9),K4⟩) (rG:PySem.W.codeIn K w6 "_law_picture" =true) (rH:PySem.W.keepIn K (.ref rm)=true)
  (yN:PySem.W.nsIn K mainGlobals "_law_some" =some (some (.ref xZ))) (yO:K.lookup xZ=some ⟨WT,WM,.func (PySem.W.fnOf "_law_some" "_law_some" (defArgs gH) (defBody gH) (defScope gH) .none WW WX WY WQ Ft W0),WR⟩) (yP:PySem.W.codeIn K Ft "_law_some" =true) (yQ:PySem.W.keepIn K (.ref xZ)=true)
  (Xp:PySem.W.nsIn K mainGlobals "gaps" =some (some (.ref VG))) (Xq:K.lookup VG=some ⟨ahV,ahS,.func (PySem.W.fnOf "gaps" "gaps" (defArgs qe) (defBody qe) (defScope qe) .none ahW ahX ahY ahT aaA ahZ),ahU⟩) (Xr:PySem.W.codeIn K aaA "gaps" =true) (Xu:PySem.W.keepIn K (.ref VG)=true)
  (wG:PySem.W.nsIn K mainGlobals "join_fares" =some (some (.ref vX))) (wH:K.lookup vX=some ⟨RQ,RM,.func (PySem.W.fnOf "join_fares" "join_fares" (defArgs fL) (defBody fL) (defScope fL) .none RT RV RW RN CP RX),RP⟩) (wI:PySem.W.codeIn K CP "join_fares" =true) (wJ:PySem.W.keepIn K (.ref vX)=true)
  (FQ:PySem.W.nsIn K mainGlobals "is_line" =some (some (.ref Ez))) (FW:K.lookup Ez=some ⟨abW,abT,.func (PySem.W.fnOf "is_line" "is_line" (defArgs jG) (defBody jG) (defScope jG) .none abX abY abZ abU La ab0),abV⟩) (FZ:PySem.W.codeIn K La "is_line" =true) (Ga:PySem.W.keepIn K (.ref Ez)=true)
  (BW:PySem.W.nsIn K mainGlobals "is_whole" =some (some (.ref Bl))) (BX:K.lookup Bl=some ⟨Y4,YX,.func (PySem.W.fnOf "is_whole" "is_whole" (defArgs iK) (defBody iK) (defScope iK) .none Y5 Y6 Y7 YZ Ib Y8),Y0⟩) (BZ:PySem.W.codeIn K Ib "is_whole" =true) (Ca:PySem.W.keepIn K (.ref Bl)=true)
  (Gb:PySem.W.nsIn K mainGlobals "is_cell" =some (some (.ref EY))) (Gd:K.lookup EY=some ⟨ab4,ab1,.func (PySem.W.fnOf "is_cell" "is_cell" (defArgs jH) (defBody jH) (defScope jH) .none ab5 ab6 ab7 ab2 Lb ab8),ab3⟩) (Ge:PySem.W.codeIn K Lb "is_cell" =true) (Gf:PySem.W.keepIn K (.ref EY)=true)
  (Jw:PySem.W.nsIn K mainGlobals "is_row" =some (some (.ref Js))) (Jx:K.lookup Js=some ⟨ael,aei,.func (PySem.W.fnOf "is_row" "is_row" (defArgs lB) (defBody lB) (defScope lB) .none aem aen aeo aej Qv aep),aek⟩) (Jy:PySem.W.codeIn K Qv "is_row" =true) (Jz:PySem.W.keepIn K (.ref Js)=true)
  (wK:PySem.W.nsIn K mainGlobals "is_picture" =some (some (.ref vY))) (wL:K.lookup vY=some ⟨R4,RZ,.func (PySem.W.fnOf "is_picture" "is_picture" (defArgs fM) (defBody fM) (defScope fM) .none R5 R6 R7 R0 CQ R8),R3⟩) (wM:PySem.W.codeIn K CQ "is_picture" =true) (wN:PySem.W.keepIn K (.ref vY)=true)
  (rJ:PySem.W.nsIn K mainGlobals "need_picture" =some (some (.ref rA))) (rK:K.lookup rA=some ⟨Lg,Ld,.func (PySem.W.fnOf "need_picture" "need_picture" (defArgs dR) (defBody dR) (defScope dR) .none Lh Li Lj Le xg Ln),Lf⟩) (rM:PySem.W.codeIn K xg "need_picture" =true) (rN:PySem.W.keepIn K (.ref rA)=true)
  (Gg:PySem.W.nsIn K mainGlobals "size_of" =some (some (.ref Fb))) (Gh:K.lookup Fb=some ⟨acf,ab9,.func (PySem.W.fnOf "size_of" "size_of" (defArgs jJ) (defBody jJ) (defScope jJ) .none acg ach aci acd Lp acj),ace⟩) (Gi:PySem.W.codeIn K Lp "size_of" =true) (Gj:PySem.W.keepIn K (.ref Fb)=true)
  (JB:PySem.W.nsIn K mainGlobals "turned" =some (some (.ref Jt))) (JC:K.lookup Jt=some ⟨aev,aer,.func (PySem.W.fnOf "turned" "turned" (defArgs lC) (defBody lC) (defScope lC) .none aew aex aey aes Qw aez),aeu⟩) (JD:PySem.W.codeIn K Qw "turned" =true) (JF:PySem.W.keepIn K (.ref Jt)=true)
  (JG:PySem.W.nsIn K mainGlobals "worths" =some (some (.ref Ju))) (JH:K.lookup Ju=some ⟨aeD,aeA,.func (PySem.W.fnOf "worths" "worths" (defArgs lD) (defBody lD) (defScope lD) .none aeE aeF aeG aeB Qx aeH),aeC⟩) (JK:PySem.W.codeIn K Qx "worths" =true) (JL:PySem.W.keepIn K (.ref Ju)=true)
  (Pb:PySem.W.nsIn K mainGlobals "fares" =some (some (.ref N8))) (Pg:K.lookup N8=some ⟨af2,afY,.func (PySem.W.fnOf "fares" "fares" (defArgs nG) (defBody nG) (defScope nG) .none af3 af4 af5 afZ W2 af6),af0⟩) (Ph:PySem.W.codeIn K W2 "fares" =true) (Pj:PySem.W.keepIn K (.ref N8)=true)
  (Cd:PySem.W.nsIn K mainGlobals "all_free" =some (some (.ref Bm))) (Ce:K.lookup Bm=some ⟨Zc,Y9,.func (PySem.W.fnOf "all_free" "all_free" (defArgs iM) (defBody iM) (defScope iM) .none Zd Ze Zf Za Ie Zg),Zb⟩) (Cg:PySem.W.codeIn K Ie "all_free" =true) (Ci:PySem.W.keepIn K (.ref Bm)=true)
  (Gk:PySem.W.nsIn K mainGlobals "is_mark" =some (some (.ref Fd))) (Gm:K.lookup Fd=some ⟨acq,acn,.func (PySem.W.fnOf "is_mark" "is_mark" (defArgs jK) (defBody jK) (defScope jK) .none acr acs acu aco Lq acv),acp⟩) (Gn:PySem.W.codeIn K Lq "is_mark" =true) (Gp:PySem.W.keepIn K (.ref Fd)=true)
  (rO:PySem.W.nsIn K mainGlobals "is_marks_row" =some (some (.ref rC))) (rP:K.lookup rC=some ⟨Ly,Lr,.func (PySem.W.fnOf "is_marks_row" "is_marks_row" (defArgs dU) (defBody dU) (defScope dU) .none Lz LC LK Ls xq LQ),Lw⟩) (rQ:PySem.W.codeIn K xq "is_marks_row" =true) (rR:PySem.W.keepIn K (.ref rC)=true)
  (Cj:PySem.W.nsIn K mainGlobals "is_marks" =some (some (.ref Bo))) (Ck:K.lookup Bo=some ⟨Zk,Zh,.func (PySem.W.fnOf "is_marks" "is_marks" (defArgs iQ) (defBody iQ) (defScope iQ) .none Zm Zn Zo Zi Ih Zq),Zj⟩) (Cm:PySem.W.codeIn K Ih "is_marks" =true) (Cp:PySem.W.keepIn K (.ref Bo)=true)
  (wO:PySem.W.nsIn K mainGlobals "full_marks" =some (some (.ref vZ))) (wQ:K.lookup vZ=some ⟨Ss,R9,.func (PySem.W.fnOf "full_marks" "full_marks" (defArgs fQ) (defBody fQ) (defScope fQ) .none Sv Sx Sy Sd CV SJ),Sh⟩) (wR:PySem.W.codeIn K CV "full_marks" =true) (wU:PySem.W.keepIn K (.ref vZ)=true)
  (Gq:PySem.W.nsIn K mainGlobals "fare_of" =some (some (.ref Fe))) (Gr:K.lookup Fe=some ⟨acA,acw,.func (PySem.W.fnOf "fare_of" "fare_of" (defArgs jL) (defBody jL) (defScope jL) .none acB acC acD acy LR acE),acz⟩) (Gs:PySem.W.codeIn K LR "fare_of" =true) (Gu:PySem.W.keepIn K (.ref Fe)=true)
  (Xv:PySem.W.nsIn K mainGlobals "near" =some (some (.ref VH))) (Xw:K.lookup VH=some ⟨ah3,ah0,.func (PySem.W.fnOf "near" "near" (defArgs qg) (defBody qg) (defScope qg) .none ah4 ah5 ah6 ah1 aaB ah7),ah2⟩) (Xx:PySem.W.codeIn K aaB "near" =true) (Xy:PySem.W.keepIn K (.ref VH)=true)
  (JM:PySem.W.nsIn K mainGlobals "onward" =some (some (.ref Jv))) (JN:K.lookup Jv=some ⟨aeL,aeI,.func (PySem.W.fnOf "onward" "onward" (defArgs lE) (defBody lE) (defScope lE) .none aeM aeN aeO aeJ Qy aeP),aeK⟩) (JQ:PySem.W.codeIn K Qy "onward" =true) (JR:PySem.W.keepIn K (.ref Jv)=true)
  (Pk:PySem.W.nsIn K mainGlobals "swept" =some (some (.ref Oa))) (Pn:K.lookup Oa=some ⟨aga,af7,.func (PySem.W.fnOf "swept" "swept" (defArgs nH) (defBody nH) (defScope nH) .none agb agc agd af8 W3 agf),af9⟩) (Pq:PySem.W.codeIn K W3 "swept" =true) (Pr:PySem.W.keepIn K (.ref Oa)=true)
  (yR:PySem.W.nsIn K mainGlobals "best_ways" =some (some (.ref yc))) (yS:K.lookup yc=some ⟨W7,W4,.func (PySem.W.fnOf "best_ways" "best_ways" (defArgs eZ) (defBody eZ) (defScope eZ) .none W8 W9 Xa W5 Fv Xb),W6⟩) (yU:PySem.W.codeIn K Fv "best_ways" =true) (yV:PySem.W.keepIn K (.ref yc)=true)
  (Cq:PySem.W.nsIn K mainGlobals "from_top" =some (some (.ref Bp))) (Cr:K.lookup Bp=some ⟨Zv,Zr,.func (PySem.W.fnOf "from_top" "from_top" (defArgs iR) (defBody iR) (defScope iR) .none Zw Zx Zy Zt Ii Zz),Zu⟩) (Cu:PySem.W.codeIn K Ii "from_top" =true) (Cv:PySem.W.keepIn K (.ref Bp)=true)
  (tV:PySem.W.nsIn K mainGlobals "first_seams" =some (some (.ref tL))) (tW:K.lookup tL=some ⟨Ot,Om,.func (PySem.W.fnOf "first_seams" "first_seams" (defArgs eE) (defBody eE) (defScope eE) .none Ou Ov Ow Oo zY Ox),Oq⟩) (tX:PySem.W.codeIn K zY "first_seams" =true) (tY:PySem.W.keepIn K (.ref tL)=true)
  (yW:PySem.W.nsIn K mainGlobals "least_way" =some (some (.ref yd))) (yX:K.lookup yd=some ⟨Xf,Xc,.func (PySem.W.fnOf "least_way" "least_way" (defArgs gJ) (defBody gJ) (defScope gJ) .none Xg Xh Xi Xd Fw Xj),Xe⟩) (yZ:PySem.W.codeIn K Fw "least_way" =true) (za:PySem.W.keepIn K (.ref yd)=true)
  (tZ:PySem.W.nsIn K mainGlobals "need_manner" =some (some (.ref tM))) (uc:K.lookup tM=some ⟨O5,Oz,.func (PySem.W.fnOf "need_manner" "need_manner" (defArgs eF) (defBody eF) (defScope eF) .none O6 O7 O8 OD zZ O9),OJ⟩) (ud:PySem.W.codeIn K zZ "need_manner" =true) (uf:PySem.W.keepIn K (.ref tM)=true)
  (Gv:PySem.W.nsIn K mainGlobals "without" =some (some (.ref Fg))) (Gw:K.lookup Fg=some ⟨acI,acF,.func (PySem.W.fnOf "without" "without" (defArgs jM) (defBody jM) (defScope jM) .none acJ acK acL acG Ma acM),acH⟩) (Gx:PySem.W.codeIn K Ma "without" =true) (Gy:PySem.W.keepIn K (.ref Fg)=true)
  (Gz:PySem.W.nsIn K mainGlobals "cleared" =some (some (.ref Fi))) (GC:K.lookup Fi=some ⟨acP,acN,.func (PySem.W.fnOf "cleared" "cleared" (defArgs dI) (defBody dI) (defScope dI) .none Br Bs Bt Bq uE Bu),acO⟩) (GD:PySem.W.codeIn K uE "cleared" =true) (GF:PySem.W.keepIn K (.ref Fi)=true)
  (Mg:PySem.W.nsIn K mainGlobals "law" =some (some (.ref abK))) (acT:K.lookup abK=some ⟨ajL,ajJ,.func (PySem.W.fnOf "law" "law" (defArgs oZ) (defBody oZ) (defScope oZ) .none aeR aeS aeT aeQ Xk aeU),ajK⟩) (acU:PySem.W.codeIn K Xk "law" =true) (acV:PySem.W.keepIn K (.ref abK)=true)
  {iC:Tok}
  (gM:KB K (PySem.W.fnOf "cleared" "cleared" (defArgs dI) (defBody dI) (defScope dI) .none Br Bs Bt Bq uE Bu) ["picture","marks","manner"] [] [.inr (.str "worth" iC)])
  (jT:KB K (PySem.W.fnOf "cleared" "cleared" (defArgs dI) (defBody dI) (defScope dI) .none Br Bs Bt Bq uE Bu) ["picture","marks","manner"] ["manner"] [.inl 0])
  :∃fd:FuncData,(∀(s:Shared) (v:Value),BindsTo s fd ⟨[v],[]⟩ [("_law_script",v)])/\∀(base:Heap) (c TP:Addr),K.In base->base.Ns mainGlobals mg->rZ base mg c TP->Dy K mg "best_ways" c->FnOk l.prog w K mg base CX0 11 fa fd ["_law_script"] (spT [(TP,"best_ways.<locals>.first_ones")] K 1 Kh):=by
 have e:=hfa.symm.trans (PySem.W.mg_of X G Mg)
 (injection e with aH;injection aH with cV;obtain rfl:=cV)
 have T:Txt K mg:=⟨⟨_,PySem.W.mg_of X G zU⟩,⟨_,PySem.W.mg_of X G vN⟩,⟨_,PySem.W.mg_of X G Ep⟩,⟨_,PySem.W.mg_of X G oH⟩,⟨_,PySem.W.mg_of X G oJ⟩,ahe X G sV Fx (show 2<=sizeLine from z0b (by decide) (z0e jO)) (.cons ⟨_,rfl⟩ (.cons ⟨_,rfl⟩ (.nil))),PySem.W.mg_none_of X G sy,PySem.W.mg_none_of X G uz,PySem.W.mg_none_of X G Kw,PySem.W.mg_none_of X G Er,PySem.W.mg_none_of X G fj,PySem.W.mg_none_of X G Ky,PySem.W.mg_none_of X G fU,PySem.W.mg_none_of X G cR,PySem.W.mg_none_of X G Es,PySem.W.mg_none_of X G sE,PySem.W.mg_none_of X G uD,PySem.W.mg_none_of X G eU,PySem.W.mg_none_of X G qj,PySem.W.mg_none_of X G q8,PySem.W.mg_none_of X G Kz,PySem.W.mg_none_of X G dW,PySem.W.mg_none_of X G Bh,KC,Et,q9,KD⟩
 have GJ:=fun_mk (st:=fH) v9 wg wj
 have Qz:=fun_mk (st:=jF) Fz FJ FN
 have Ij:=fun_mk (st:=gB) yh yj yp
 have Ik:=fun_mk (st:=gC) yt yu yw
 have GK:=fun_mk (st:=fJ) wu wz wA
 have Il:=fun_mk (st:=gD) yC yD yE
 have Im:=fun_mk (st:=gF) yG yH yI
 have Mh:=fun_mk (st:=iI) Bw Bx BJ
 have Mi:=fun_mk (st:=iJ) BL BP BR
 have Io:=fun_mk (st:=gG) yK yL yM
 have CW:=fun_mk (st:=d9) tQ tR tU
 have GQ:=fun_mk (st:=fK) wC wD wF
 have Aa:=fun_mk (st:=dO) rF rG rH
 have Ir:=fun_mk (st:=gH) yO yP yQ
 have aeV:=fun_mk (st:=qe) Xq Xr Xu
 have GR:=fun_mk (st:=fL) wH wI wJ
 have QB:=fun_mk (st:=jG) FW FZ Ga
 have Mj:=fun_mk (st:=iK) BX BZ Ca
 have QC:=fun_mk (st:=jH) Gd Ge Gf
 have Xz:=fun_mk (st:=lB) Jx Jy Jz
 have GX:=fun_mk (st:=fM) wL wM wN
 have Ab:=fun_mk (st:=dR) rK rM rN
 have QD:=fun_mk (st:=jJ) Gh Gi Gj
 have XC:=fun_mk (st:=lC) JC JD JF
 have XD:=fun_mk (st:=lD) JH JK JL
 have aaC:=fun_mk (st:=nG) Pg Ph Pj
 have Ml:=fun_mk (st:=iM) Ce Cg Ci
 have QF:=fun_mk (st:=jK) Gm Gn Gp
 have Ac:=fun_mk (st:=dU) rP rQ rR
 have Mp:=fun_mk (st:=iQ) Ck Cm Cp
 have GZ:=fun_mk (st:=fQ) wQ wR wU
 have QG:=fun_mk (st:=jL) Gr Gs Gu
 have aeW:=fun_mk (st:=qg) Xw Xx Xy
 have XF:=fun_mk (st:=lE) JN JQ JR
 have aaD:=fun_mk (st:=nH) Pn Pq Pr
 have Iu:=fun_mk (st:=eZ) yS yU yV
 have Mq:=fun_mk (st:=iR) Cr Cu Cv
 have CZ:=fun_mk (st:=eE) tW tX tY
 have Iv:=fun_mk (st:=gJ) yX yZ za
 have Dc:=fun_mk (st:=eF) uc ud uf
 have QH:=fun_mk (st:=jM) Gw Gx Gy
 have aeX:=fun_mk (st:=dI) GC GD GF
 have agU:=fun_mk (st:=oZ) acT acU acV
 have XH:=GJ.binds (ps:=["_law_script","_law_k","_law_many"]) λ Z Z Z Z Z Z us hl=>El hl λ Z Z Z=>rfl
 have aeY:=Qz.binds (ps:=["_law_picture_here","_law_x","_law_y"]) λ Z Z Z Z Z Z us hl=>El hl λ Z Z Z=>rfl
 have ZC:=Ij.binds (ps:=["_law_picture_here","_law_mode","_law_x","_law_y","_law_before"]) λ Z Z Z Z Z Z us hl=>lk5 hl λ Z Z Z Z Z=>rfl
 have ZD:=Ik.binds (ps:=["_law_picture_here","_law_mode","_law_seam"]) λ Z Z Z Z Z Z us hl=>El hl λ Z Z Z=>rfl
 have XJ:=GK.binds (ps:=["_law_tags","_law_seam","_law_sign"]) λ Z Z Z Z Z Z us hl=>El hl λ Z Z Z=>rfl
 have ZF:=Il.binds (ps:=["_law_broad","_law_tall"]) λ Z Z Z Z Z Z us hl=>zT hl λ Z Z=>rfl
 have ZG:=Im.binds (ps:=["_law_picture_here","_law_mode","_law_tags"]) λ Z Z Z Z Z Z us hl=>El hl λ Z Z Z=>rfl
 have acW:=Mh.binds (ps:=["_law_rows","_law_seam"]) λ Z Z Z Z Z Z us hl=>zT hl λ Z Z=>rfl
 have acX:=Mi.binds (ps:=["_law_picture_here","_law_tags","_law_mode"]) λ Z Z Z Z Z Z us hl=>El hl λ Z Z Z=>rfl
 have ZJ:=Io.binds (ps:=["_law_picture_here"]) λ Z Z Z Z Z Z us hl=>vK hl λ Z=>rfl
 have SM:=CW.binds (ps:=["_law_script","_law_at_here"]) λ Z Z Z Z Z Z us hl=>zT hl λ Z Z=>rfl
 have XM:=GQ.binds (ps:=["_law_script","_law_at_here","_law_picture_here"]) λ Z Z Z Z Z Z us hl=>El hl λ Z Z Z=>rfl
 have Px:=Aa.binds (ps:=["_law_script","_law_at_here","_law_broad","_law_tall"]) λ Z Z Z Z Z Z us hl=>lk4 hl λ Z Z Z Z=>rfl
 have ZK:=Ir.binds (ps:=["_law_script","_law_at_here","_law_broad","_law_tall"]) λ Z Z Z Z Z Z us hl=>lk4 hl λ Z Z Z Z=>rfl
 have ajM:=aeV.binds (ps:=["line"]) λ Z Z Z Z Z Z us hl=>vK hl λ Z=>rfl
 have XQ:=GR.binds (ps:=["picture","y"]) λ Z Z Z Z Z Z us hl=>zT hl λ Z Z=>rfl
 have aeZ:=QB.binds (ps:=["thing"]) λ Z Z Z Z Z Z us hl=>vK hl λ Z=>rfl
 have acY:=Mj.binds (ps:=["thing"]) λ Z Z Z Z Z Z us hl=>vK hl λ Z=>rfl
 have ae0:=QC.binds (ps:=["thing"]) λ Z Z Z Z Z Z us hl=>vK hl λ Z=>rfl
 have agg:=Xz.binds (ps:=["thing"]) λ Z Z Z Z Z Z us hl=>vK hl λ Z=>rfl
 have XR:=GX.binds (ps:=["thing"]) λ Z Z Z Z Z Z us hl=>vK hl λ Z=>rfl
 have Py:=Ab.binds (ps:=["thing"]) λ Z Z Z Z Z Z us hl=>vK hl λ Z=>rfl
 have ae1:=QD.binds (ps:=["picture"]) λ Z Z Z Z Z Z us hl=>vK hl λ Z=>rfl
 have agh:=XC.binds (ps:=["picture"]) λ Z Z Z Z Z Z us hl=>vK hl λ Z=>rfl
 have agi:=XD.binds (ps:=["picture"]) λ Z Z Z Z Z Z us hl=>vK hl λ Z=>rfl
 have aib:=aaC.binds (ps:=["picture","manner"]) λ Z Z Z Z Z Z us hl=>zT hl λ Z Z=>rfl
 have acZ:=Ml.binds (ps:=["picture"]) λ Z Z Z Z Z Z us hl=>vK hl λ Z=>rfl
 have ae2:=QF.binds (ps:=["thing"]) λ Z Z Z Z Z Z us hl=>vK hl λ Z=>rfl
 have Pz:=Ac.binds (ps:=["thing","wide"]) λ Z Z Z Z Z Z us hl=>zT hl λ Z Z=>rfl
 have ac0:=Mp.binds (ps:=["thing","picture"]) λ Z Z Z Z Z Z us hl=>zT hl λ Z Z=>rfl
 have XS:=GZ.binds (ps:=["thing","picture"]) λ Z Z Z Z Z Z us hl=>zT hl λ Z Z=>rfl
 have ae3:=QG.binds (ps:=["row","above","place"]) λ Z Z Z Z Z Z us hl=>El hl λ Z Z Z=>rfl
 have ajN:=aeW.binds (ps:=["place","wide"]) λ Z Z Z Z Z Z us hl=>zT hl λ Z Z=>rfl
 have agj:=XF.binds (ps:=["beneath","row","x"]) λ Z Z Z Z Z Z us hl=>El hl λ Z Z Z=>rfl
 have aic:=aaD.binds (ps:=["table","marks","start","gather"]) λ Z Z Z Z Z Z us hl=>lk4 hl λ Z Z Z Z=>rfl
 have oU:=Iu.binds (ps:=["table","marks","many"]) λ Z Z Z Z Z Z us hl=>El hl λ Z Z Z=>rfl
 have ac1:=Mq.binds (ps:=["table","rows"]) λ Z Z Z Z Z Z us hl=>zT hl λ Z Z=>rfl
 have lQ:=CZ.binds (ps:=["table","marks","many"]) λ Z Z Z Z Z Z us hl=>El hl λ Z Z Z=>rfl
 have oW:=Iv.binds (ps:=["table","marks"]) λ Z Z Z Z Z Z us hl=>zT hl λ Z Z=>rfl
 have SN:=Dc.binds (ps:=["thing"]) λ Z Z Z Z Z Z us hl=>vK hl λ Z=>rfl
 have ae4:=QH.binds (ps:=["rows","seam"]) λ Z Z Z Z Z Z us hl=>zT hl λ Z Z=>rfl
 have aoG:=agU.binds (ps:=["_law_script"]) λ Z Z Z Z Z Z us hl=>vK hl λ Z=>rfl
 refine⟨PySem.W.fnOf "law" "law" (defArgs oZ) (defBody oZ) (defScope oZ) .none aeR aeS aeT aeQ Xk aeU,λ s v=> .of_eq rfl,λ base cN TP Z Z hB hCI=>?_⟩
 have bK:aY l.prog w K mg base 1 "_law_drawn" 3 bU:=QW GJ (PySem.W.mg_of X G v7) XH T
 have kY:aY l.prog w K mg base 1 "_law_at" 3 gQ:=abv Qz (PySem.W.mg_of X G Fy) aeY T
 have oK:aY l.prog w K mg base 2 "_law_step" 5 gq:=Vn Ij (PySem.W.mg_of X G yg) ZC T kY
 have oM:aY l.prog w K mg base 3 "_law_cost" 3 jR:=Vp Ik (PySem.W.mg_of X G yq) ZD T oK
 have j9:aY l.prog w K mg base 1 "_law_signs" 3 gR:=QZ GK (PySem.W.mg_of X G wk) XJ T
 have oN:aY l.prog w K mg base 1 "_law_ways" 2 lV:=Vr Il (PySem.W.mg_of X G yx) ZF T
 have oO:aY l.prog w K mg base 4 "_law_best" 3 lW:=Vt Im (PySem.W.mg_of X G yF) ZG T oM j9 oN
 have nM:aY l.prog w K mg base 1 "_law_cut" 2 lA:=Yl Mh (PySem.W.mg_of X G Bv) acW T
 have nO:aY l.prog w K mg base 5 "_law_due" 3 iH:=Yn Mi (PySem.W.mg_of X G BK) acX T oO nM
 have mj:aY l.prog w K mg base 1 "_law_free" 1 eY:=Vv Io (PySem.W.mg_of X G yJ) ZJ T
 have lU:aY l.prog w K mg base 2 "_law_manner" 2 jA:=NQ CW (PySem.W.mg_of X G tO) SM T bK
 have nj:aY l.prog w K mg base 2 "_law_marks" 3 jY:=Q5 GQ (PySem.W.mg_of X G wB) XM T bK
 have kh:aY l.prog w K mg base 2 "_law_picture" 4 jg:=KJ Aa (PySem.W.mg_of X G rE) Px T bK
 have oX:aY l.prog w K mg base 3 "_law_some" 4 lX:=Vx Ir (PySem.W.mg_of X G yN) ZK T bK kh
 have mY:aY l.prog w K mg base 1 "gaps" 1 oE:=ahP aeV (PySem.W.mg_of X G Xp) ajM T
 have m6:aY l.prog w K mg base 2 "join_fares" 2 jZ:=Q7 GR (PySem.W.mg_of X G wG) XQ T mY
 have iW:aY l.prog w K mg base 1 "is_line" 1 iV:=abx QB (PySem.W.mg_of X G FQ) aeZ T
 have gK:aY l.prog w K mg base 1 "is_whole" 1 gw:=Yq Mj (PySem.W.mg_of X G BW) acY T
 have sW:aY l.prog w K mg base 2 "is_cell" 1 pG:=abz QC (PySem.W.mg_of X G Gb) ae0 T gK
 have vO:aY l.prog w K mg base 3 "is_row" 1 qM:=aea Xz (PySem.W.mg_of X G Jw) agg T sW iW
 have mZ:aY l.prog w K mg base 4 "is_picture" 1 j5:=Q9 GX (PySem.W.mg_of X G wK) XR T iW vO
 have dg:aY l.prog w K mg base 5 "need_picture" 1 dN:=KQ Ab (PySem.W.mg_of X G rJ) Py T mZ
 have iY:aY l.prog w K mg base 6 "size_of" 1 jE:=abB QD (PySem.W.mg_of X G Gg) ae1 T dg
 have vP:aY l.prog w K mg base 7 "turned" 1 qO:=aec XC (PySem.W.mg_of X G JB) agh T iY
 have vQ:aY l.prog w K mg base 8 "worths" 1 qP:=aee XD (PySem.W.mg_of X G JG) agi T mY iY vP
 have zW:aY l.prog w K mg base 9 "fares" 2 pH:=afV aaC (PySem.W.mg_of X G Pb) aib T m6 vQ
 have qm:aY l.prog w K mg base 1 "all_free" 1 pY:=Yt Ml (PySem.W.mg_of X G Cd) acZ T
 have sX:aY l.prog w K mg base 2 "is_mark" 1 pI:=abD QF (PySem.W.mg_of X G Gk) ae2 T gK
 have kj:aY l.prog w K mg base 3 "is_marks_row" 2 jh:=KY Ac (PySem.W.mg_of X G rO) Pz T sX
 have qp:aY l.prog w K mg base 4 "is_marks" 2 nu:=Yv Mp (PySem.W.mg_of X G Cj) ac0 T kj
 have m9:aY l.prog w K mg base 5 "full_marks" 2 j7:=Rb GZ (PySem.W.mg_of X G wO) XS T qm qp
 have iZ:aY l.prog w K mg base 1 "fare_of" 3 gU:=abF QG (PySem.W.mg_of X G Gq) ae3 T
 have Ew:aY l.prog w K mg base 1 "near" 2 zL:=ahR aeW (PySem.W.mg_of X G Xv) ajN T
 have vR:aY l.prog w K mg base 2 "onward" 3 qR:=aeh XF (PySem.W.mg_of X G JM) agj T iZ Ew
 have zV:=afX (P:=l.prog) (w:=w) (base:=base) aaD (PySem.W.mg_of X G Pk) aic T vR
 have oR:=VB (P:=l.prog) (w:=w) (base:=base) Iu (PySem.W.mg_of X G yR) T zV  hB hCI
 have qu:aY l.prog w K mg base 2 "from_top" 2 nA:=Yx Mq (PySem.W.mg_of X G Cq) ac1 T iZ
 have lO:=N5 (P:=l.prog) (w:=w) (base:=base) CZ (PySem.W.mg_of X G tV) T oR oU qu
 have oV:=VF (P:=l.prog) (w:=w) (base:=base) Iv (PySem.W.mg_of X G yW) T lO lQ
 have lR:aY l.prog w K mg base 1 "need_manner" 1 jB:=N7 Dc (PySem.W.mg_of X G tZ) SN T
 have pJ:aY l.prog w K mg base 1 "without" 2 mU:=abH QH (PySem.W.mg_of X G Gv) ae4 T
 have kZ:=abJ (P:=l.prog) (w:=w) (base:=base) aeX (PySem.W.mg_of X G Gz) T zW m9 oV oW lR dg pJ
 have ana:=ok_law (P:=l.prog) (w:=w) (base:=base) agU (PySem.W.mg_of X G Mg) T bK nO mj lU nj oX kZ gM jT
 obtain⟨f',ok',hm',_⟩:=ana
 cases (PySem.W.mg_of X G Mg).symm.trans hm'
 exact ok'
end gZ
namespace gZ
open PySem PySem.Spec L2 Pu
theorem walk {l:PySem.W.OpenLaw} {q:Program} {loose:List Str} {XP:(Str->Option Value)->Heap->Prop} {YP:World->Heap->Prop} {d:DefRec} {K:Params->PySem.W.Frag} (hn:l.most=some 63) (hdf:d.params.defaults=[])
  (hY:∀(w:World) (h:Heap),YP w h->(K w.params).In h) (hnt:∀w:World,PySem.W.noTabs (K w.params)=true) (hrec:∃dy,(PyProof.Rows.recsOf q).find? (λ e:DefRec=>e.name ==("best_ways" :Str))=some dy)
  (F:∀(w:World) (mg:Str->Option Value) (fa:Addr) (h:Heap),(K w.params).In h->h.Ns mainGlobals mg->mg d.name=some (.ref fa)->
   ∃fd:FuncData,(∀(s:Shared) (u:Value),BindsTo s fd ⟨[u],[]⟩ [("_law_script",u)])/\∀(base:Heap) (c T:Addr),(K w.params).In base->base.Ns mainGlobals mg->rZ base mg c T->Dy (K w.params) mg "best_ways" c->FnOk l.prog w (K w.params) mg base CX0 11 fa fd ["_law_script"] (spT [(T,"best_ways.<locals>.first_ones")] (K w.params) 1 Kh)):
  PySem.W.WalkO q loose XP YP l.row.toRowW d [] (λ f vs=>PySem.call f vs):=
 Pu.am4 (n:=63) (k:=11) (x:= "_law_script") (y:= "best_ways") (q:= "best_ways.<locals>.first_ones") (FL:=Kh) hn (by decide) hdf ⟨rfl,by decide,by decide⟩ hY hnt (by obtain⟨dy,e⟩:=hrec;exact⟨dy,List.mem_of_find?_eq_some e,beq_iff_eq.mp (List.find?_some (p:=λ e:DefRec=>e.name ==("best_ways" :Str)) e)⟩) F afS
end gZ
open PySem PySem.W PyProof.Rows
set_option bootstrap.genMatcherCode true
set_option compiler.extract_closed true
set_option maxRecDepth 100000 in
set_option maxHeartbeats 0 in
theorem PySem.Challenge.cw_seamhall_k34_cleared_holds : PySem.Challenge.rw_seamhall_k34_cleared.Holds := by
 w_on;o_law;k_head;(case hw=>w_witness2)
 k_fill
 refine gZ.walk (l:=PySem.Challenge.rw_seamhall_k34_cleared) rfl rfl (λ w h Y=>PySem.W.km_in_of Y) ?nt ?rec ?F
 case nt=>intro w;kernel_rfl
 case rec=>exact⟨_,rfl⟩
 case F=>
  intro w mg fa h KX G hmg
  refine' gZ.all_mk KX G hmg ?zU ?vN ?Ep ?oH ?oJ ?sV ?Fx ?sy ?uz ?Kw ?Er ?fj ?Ky ?fU ?cR ?Es ?sE ?uD ?eU ?qj ?q8 ?Kz ?dW ?Bh ?KC ?Et ?q9 ?KD ?v7 ?v9 ?wg ?wj ?Fy ?Fz ?FJ ?FN ?yg ?yh ?yj ?yp ?yq ?yt ?yu ?yw ?wk ?wu ?wz ?wA ?yx ?yC ?yD ?yE ?yF ?yG ?yH ?yI ?Bv ?Bw ?Bx ?BJ ?BK ?BL ?BP ?BR ?yJ ?yK ?yL ?yM ?tO ?tQ ?tR ?tU ?wB ?wC ?wD ?wF ?rE ?rF ?rG ?rH ?yN ?yO ?yP ?yQ ?Xp ?Xq ?Xr ?Xu ?wG ?wH ?wI ?wJ ?FQ ?FW ?FZ ?Ga ?BW ?BX ?BZ ?Ca ?Gb ?Gd ?Ge ?Gf ?Jw ?Jx ?Jy ?Jz ?wK ?wL ?wM ?wN ?rJ ?rK ?rM ?rN ?Gg ?Gh ?Gi ?Gj ?JB ?JC ?JD ?JF ?JG ?JH ?JK ?JL ?Pb ?Pg ?Ph ?Pj ?Cd ?Ce ?Cg ?Ci ?Gk ?Gm ?Gn ?Gp ?rO ?rP ?rQ ?rR ?Cj ?Ck ?Cm ?Cp ?wO ?wQ ?wR ?wU ?Gq ?Gr ?Gs ?Gu ?Xv ?Xw ?Xx ?Xy ?JM ?JN ?JQ ?JR ?Pk ?Pn ?Pq ?Pr ?yR ?yS ?yU ?yV ?Cq ?Cr ?Cu ?Cv ?tV ?tW ?tX ?tY ?yW ?yX ?yZ ?za ?tZ ?uc ?ud ?uf ?Gv ?Gw ?Gx ?Gy ?Gz ?GC ?GD ?GF ?Mg ?acT ?acU ?acV ?gM ?jT
  (case zU=>k_is)
  (case vN=>k_is)
  (case Ep=>k_is)
  (case oH=>k_is)
  (case oJ=>k_is)
  (case sV=>k_is)
  (case Fx=>k_is)
  (case sy=>k_is)
  (case uz=>k_is)
  (case Kw=>k_is)
  (case Er=>k_is)
  (case fj=>k_is)
  (case Ky=>k_is)
  (case fU=>k_is)
  (case cR=>k_is)
  (case Es=>k_is)
  (case sE=>k_is)
  (case uD=>k_is)
  (case eU=>k_is)
  (case qj=>k_is)
  (case q8=>k_is)
  (case Kz=>k_is)
  (case dW=>k_is)
  (case Bh=>k_is)
  (case KC=>intro d;cases d;(show PySem.W.kitOne _ (Value.type "NoneType") (Value.type "int")=some false);kit_is;(show PySem.W.kitOne _ (Value.type "bool") (Value.type "int")=some true);kit_is;(show PySem.W.kitOne _ (Value.type "int") (Value.type "int")=some true);kit_is;(show PySem.W.kitOne _ (Value.type "str") (Value.type "int")=some false);kit_is;(show PySem.W.kitOne _ (Value.type "tuple") (Value.type "int")=some false);kit_is;(show PySem.W.kitOne _ (Value.type "list") (Value.type "int")=some false);kit_is)
  (case Et=>intro d;cases d;(show PySem.W.kitOne _ (Value.type "NoneType") (Value.type "bool")=some false);kit_is;(show PySem.W.kitOne _ (Value.type "bool") (Value.type "bool")=some true);kit_is;(show PySem.W.kitOne _ (Value.type "int") (Value.type "bool")=some false);kit_is;(show PySem.W.kitOne _ (Value.type "str") (Value.type "bool")=some false);kit_is;(show PySem.W.kitOne _ (Value.type "tuple") (Value.type "bool")=some false);kit_is;(show PySem.W.kitOne _ (Value.type "list") (Value.type "bool")=some false);kit_is)
  (case q9=>intro d;cases d;(show PySem.W.kitOne _ (Value.type "NoneType") (Value.type "tuple")=some false);kit_is;(show PySem.W.kitOne _ (Value.type "bool") (Value.type "tuple")=some false);kit_is;(show PySem.W.kitOne _ (Value.type "int") (Value.type "tuple")=some false);kit_is;(show PySem.W.kitOne _ (Value.type "str") (Value.type "tuple")=some false);kit_is;(show PySem.W.kitOne _ (Value.type "tuple") (Value.type "tuple")=some true);kit_is;(show PySem.W.kitOne _ (Value.type "list") (Value.type "tuple")=some false);kit_is)
  (case KD=>intro d;cases d;(show PySem.W.kitOne _ (Value.type "NoneType") (Value.type "list")=some false);kit_is;(show PySem.W.kitOne _ (Value.type "bool") (Value.type "list")=some false);kit_is;(show PySem.W.kitOne _ (Value.type "int") (Value.type "list")=some false);kit_is;(show PySem.W.kitOne _ (Value.type "str") (Value.type "list")=some false);kit_is;(show PySem.W.kitOne _ (Value.type "tuple") (Value.type "list")=some false);kit_is;(show PySem.W.kitOne _ (Value.type "list") (Value.type "list")=some true);kit_is)
  (case v7=>k_is)
  (case v9=>k_is)
  (case wg=>k_is)
  (case wj=>k_is)
  (case Fy=>k_is)
  (case Fz=>k_is)
  (case FJ=>k_is)
  (case FN=>k_is)
  (case yg=>k_is)
  (case yh=>k_is)
  (case yj=>k_is)
  (case yp=>k_is)
  (case yq=>k_is)
  (case yt=>k_is)
  (case yu=>k_is)
  (case yw=>k_is)
  (case wk=>k_is)
  (case wu=>k_is)
  (case wz=>k_is)
  (case wA=>k_is)
  (case yx=>k_is)
  (case yC=>k_is)
  (case yD=>k_is)
  (case yE=>k_is)
  (case yF=>k_is)
  (case yG=>k_is)
  (case yH=>k_is)
  (case yI=>k_is)
  (case Bv=>k_is)
  (case Bw=>k_is)
  (case Bx=>k_is)
  (case BJ=>k_is)
  (case BK=>k_is)
  (case BL=>k_is)
  (case BP=>k_is)
  (case BR=>k_is)
  (case yJ=>k_is)
  (case yK=>k_is)
  (case yL=>k_is)
  (case yM=>k_is)
  (case tO=>k_is)
  (case tQ=>k_is)
  (case tR=>k_is)
  (case tU=>k_is)
  (case wB=>k_is)
  (case wC=>k_is)
  (case wD=>k_is)
  (case wF=>k_is)
  (case rE=>k_is)
  (case rF=>k_is)
  (case rG=>k_is)
  (case rH=>k_is)
  (case yN=>k_is)
  (case yO=>k_is)
  (case yP=>k_is)
  (case yQ=>k_is)
  (case Xp=>k_is)
  (case Xq=>k_is)
  (case Xr=>k_is)
  (case Xu=>k_is)
  (case wG=>k_is)
  (case wH=>k_is)
  (case wI=>k_is)
  (case wJ=>k_is)
  (case FQ=>k_is)
  (case FW=>k_is)
  (case FZ=>k_is)
  (case Ga=>k_is)
  (case BW=>k_is)
  (case BX=>k_is)
  (case BZ=>k_is)
  (case Ca=>k_is)
  (case Gb=>k_is)
  (case Gd=>k_is)
  (case Ge=>k_is)
  (case Gf=>k_is)
  (case Jw=>k_is)
  (case Jx=>k_is)
  (case Jy=>k_is)
  (case Jz=>k_is)
  (case wK=>k_is)
  (case wL=>k_is)
  (case wM=>k_is)
  (case wN=>k_is)
  (case rJ=>k_is)
  (case rK=>k_is)
  (case rM=>k_is)
  (case rN=>k_is)
  (case Gg=>k_is)
  (case Gh=>k_is)
  (case Gi=>k_is)
  (case Gj=>k_is)
  (case JB=>k_is)
  (case JC=>k_is)
  (case JD=>k_is)
  (case JF=>k_is)
  (case JG=>k_is)
  (case JH=>k_is)
  (case JK=>k_is)
  (case JL=>k_is)
  (case Pb=>k_is)
  (case Pg=>k_is)
  (case Ph=>k_is)
  (case Pj=>k_is)
  (case Cd=>k_is)
  (case Ce=>k_is)
  (case Cg=>k_is)
  (case Ci=>k_is)
  (case Gk=>k_is)
  (case Gm=>k_is)
  (case Gn=>k_is)
  (case Gp=>k_is)
  (case rO=>k_is)
  (case rP=>k_is)
  (case rQ=>k_is)
  (case rR=>k_is)
  (case Cj=>k_is)
  (case Ck=>k_is)
  (case Cm=>k_is)
  (case Cp=>k_is)
  (case wO=>k_is)
  (case wQ=>k_is)
  (case wR=>k_is)
  (case wU=>k_is)
  (case Gq=>k_is)
  (case Gr=>k_is)
  (case Gs=>k_is)
  (case Gu=>k_is)
  (case Xv=>k_is)
  (case Xw=>k_is)
  (case Xx=>k_is)
  (case Xy=>k_is)
  (case JM=>k_is)
  (case JN=>k_is)
  (case JQ=>k_is)
  (case JR=>k_is)
  (case Pk=>k_is)
  (case Pn=>k_is)
  (case Pq=>k_is)
  (case Pr=>k_is)
  (case yR=>k_is)
  (case yS=>k_is)
  (case yU=>k_is)
  (case yV=>k_is)
  (case Cq=>k_is)
  (case Cr=>k_is)
  (case Cu=>k_is)
  (case Cv=>k_is)
  (case tV=>k_is)
  (case tW=>k_is)
  (case tX=>k_is)
  (case tY=>k_is)
  (case yW=>k_is)
  (case yX=>k_is)
  (case yZ=>k_is)
  (case za=>k_is)
  (case tZ=>k_is)
  (case uc=>k_is)
  (case ud=>k_is)
  (case uf=>k_is)
  (case Gv=>k_is)
  (case Gw=>k_is)
  (case Gx=>k_is)
  (case Gy=>k_is)
  (case Gz=>k_is)
  (case GC=>k_is)
  (case GD=>k_is)
  (case GF=>k_is)
  (case Mg=>k_is)
  (case acT=>k_is)
  (case acU=>k_is)
  (case acV=>k_is)
  (case gM=>intro s us ws i hl hw;have h0:us.length=2:=(by simp only[List.length_cons,List.length_nil] at hl;omega);clear hl;obtain⟨u0,us0,rfl,h1⟩:=Pu.Du h0;clear h0;obtain⟨u1,us1,rfl,h2⟩:=Pu.Du h1;clear h1;cases Pu.len0 h2;have g0:ws.length=0:=hw;clear hw;cases Pu.len0 g0;exact PySem.W.kp_binds i (λ S=>rfl))
  (case jT=>intro s us ws i hl hw;have h0:us.length=2:=(by simp only[List.length_cons,List.length_nil] at hl;omega);clear hl;obtain⟨u0,us0,rfl,h1⟩:=Pu.Du h0;clear h0;obtain⟨u1,us1,rfl,h2⟩:=Pu.Du h1;clear h1;cases Pu.len0 h2;have g0:ws.length=1:=hw;clear hw;obtain⟨w0,ws0,rfl,g1⟩:=Pu.Du g0;clear g0;cases Pu.len0 g1;exact PySem.W.kp_binds i (λ S=>rfl))
