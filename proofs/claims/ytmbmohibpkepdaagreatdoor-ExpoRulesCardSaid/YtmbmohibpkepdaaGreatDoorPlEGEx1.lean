/-
 Powers of e as sums of x^n over n!, in rational numbers: partial sums rise, what is left behind is small, products of sums lie between sums of sums. No program is named here.
 A short series in whole numbers: terms of which each is the one ahead of it times z over a divisor, cut; what is lost. No program is named here.
 e to the x by a short series and squares, in whole numbers: no more than some partial sum, and hardly less than any. No program is named here.
 The squares one behind the other, and the span about what comes of them. No program is named here.
 The span that power finds holds e to the x: by how many bits it works, and how much it adds. No program is named here.
 The number that power starts from; how great powers of e can be. No program is named here.
-/
import Derived.Test.YtmbmohibpkepdaaGreatDoorPlEGNumbers
namespace Go.Proofs.YtmbmohibpkepdaaGreatDoor
def sumQ (f:Nat→Rat):Nat→Rat
 | 0=>f 0
 | n+1=>sumQ f n+f (n+1)
theorem sumQ_succ (f:Nat→Rat) (n:Nat):sumQ f (n+1)=sumQ f n+f (n+1):=rfl
theorem sumQ_congr {f g:Nat→Rat} {n:Nat} (h:∀ i,i≤n→f i=g i):sumQ f n=sumQ g n:=by
 induction n with
 | zero=>exact h 0 (Nat.le_refl _)
 | succ n ih=>rw [sumQ_succ,sumQ_succ,ih (fun i hi=>h i (by omega)),h (n+1) (Nat.le_refl _)]
theorem sumQ_add (f g:Nat→Rat) (n:Nat):sumQ (fun i=>f i+g i) n=sumQ f n+sumQ g n:=by
 induction n with
 | zero=>rfl
 | succ n ih=>rw [sumQ_succ,sumQ_succ,sumQ_succ,ih];grind
theorem sumQ_mul (c:Rat) (f:Nat→Rat) (n:Nat):sumQ (fun i=>c*f i) n=c*sumQ f n:=by
 induction n with
 | zero=>rfl
 | succ n ih=>rw [sumQ_succ,sumQ_succ,ih];grind
theorem sumQ_first (f:Nat→Rat) (n:Nat):sumQ f (n+1)=f 0+sumQ (fun i=>f (i+1)) n:=by
 induction n with
 | zero=>rfl
 | succ n ih=>rw [sumQ_succ,ih,sumQ_succ];grind
theorem sumQ_le {f g:Nat→Rat} {n:Nat} (h:∀ i,i≤n→f i≤g i):sumQ f n≤sumQ g n:=by
 induction n with
 | zero=>exact h 0 (Nat.le_refl _)
 | succ n ih =>
  rw [sumQ_succ,sumQ_succ]
  have h1:=ih (fun i hi=>h i (by omega))
  have h2:=h (n+1) (Nat.le_refl _)
  grind
theorem sumQ_nonneg {f:Nat→Rat} {n:Nat} (h:∀ i,i≤n→0≤f i):0≤sumQ f n:=by
 induction n with
 | zero=>exact h 0 (Nat.le_refl _)
 | succ n ih =>
  rw [sumQ_succ]
  have h1:=ih (fun i hi=>h i (by omega))
  have h2:=h (n+1) (Nat.le_refl _)
  grind
theorem sumQ_mono {f:Nat→Rat} {n m:Nat} (h:∀ i,0≤f i) (hnm:n≤m):sumQ f n≤sumQ f m:=by
 induction m with
 | zero =>
  obtain rfl:n=0:=by omega
  exact Rat.le_refl
 | succ m ih =>
  rcases Nat.lt_or_ge m n with h1 | h1
  · obtain rfl:n=m+1:=by omega
    exact Rat.le_refl
  · have:=ih h1
    have:=h (m+1)
    rw [sumQ_succ]
    grind
def tmQ (x:Rat):Nat→Rat
 | 0=>1
 | n+1=>tmQ x n*x/((n:Rat)+1)
theorem natq_pos (n:Nat):(0:Rat) < (n:Rat)+1:=by
 have:(0:Rat)≤(n:Rat):=by exact_mod_cast Nat.zero_le n
 grind
theorem tmQ_succ (x:Rat) (n:Nat):((n:Rat)+1)*tmQ x (n+1)=x*tmQ x n:=by
 have h:=natq_pos n
 show ((n:Rat)+1)*(tmQ x n*x/((n:Rat)+1))=x*tmQ x n
 rw [Rat.div_def]
 have h2:((n:Rat)+1)*((n:Rat)+1)⁻¹=1:=Rat.mul_inv_cancel _ (by grind)
 grind
theorem tmQ_nonneg {x:Rat} (hx:0≤x) (n:Nat):0≤tmQ x n:=by
 induction n with
 | zero=>show (0:Rat)≤1;decide
 | succ n ih =>
  show 0≤tmQ x n*x/((n:Rat)+1)
  rw [Rat.div_def]
  have h1:=Rat.mul_nonneg ih hx
  have h2:0≤((n:Rat)+1)⁻¹:=Rat.le_of_lt (Rat.inv_pos.2 (natq_pos n))
  exact Rat.mul_nonneg h1 h2
def exQ (x:Rat) (n:Nat):Rat:=sumQ (tmQ x) n
theorem exQ_mono {x:Rat} (hx:0≤x) {n m:Nat} (h:n≤m):exQ x n≤exQ x m:=sumQ_mono (tmQ_nonneg hx) h
theorem exQ_one {x:Rat} (hx:0≤x) (n:Nat):1≤exQ x n:=by
 have:=exQ_mono hx (Nat.zero_le n)
 exact this
def cvQ (x y:Rat) (n:Nat):Rat:=sumQ (fun i=>tmQ x i*tmQ y (n-i)) n
theorem cv_step (x y:Rat) (n:Nat):((n:Rat)+1)*cvQ x y (n+1)=(x+y)*cvQ x y n:=by
 have e1:((n:Rat)+1)*cvQ x y (n+1)=sumQ (fun i=>(i:Rat)*tmQ x i*tmQ y (n+1-i)) (n+1)+sumQ (fun i=>tmQ x i*(((n+1-i:Nat):Rat)*tmQ y (n+1-i))) (n+1):=by
  unfold cvQ
  rw [← sumQ_mul,← sumQ_add]
  refine sumQ_congr fun i hi=>?_
  have:((n+1-i:Nat):Rat)=(n:Rat)+1-(i:Rat):=by
   obtain ⟨k,hk⟩:∃ k,n+1=i+k:=⟨n+1-i,by omega⟩
   have e:((n+1:Nat):Rat)=((i+k:Nat):Rat):=by rw [hk]
   have e2:n+1-i=k:=by omega
   rw [e2]
   push_cast at e
   grind
  rw [this]
  grind
 have e2:sumQ (fun i=>(i:Rat)*tmQ x i*tmQ y (n+1-i)) (n+1)=x*cvQ x y n:=by
  rw [sumQ_first]
  unfold cvQ
  rw [← sumQ_mul]
  have e3:sumQ (fun i=>((i+1:Nat):Rat)*tmQ x (i+1)*tmQ y (n+1-(i+1))) n=sumQ (fun i=>x*(tmQ x i*tmQ y (n-i))) n:=by
   refine sumQ_congr fun i hi=>?_
   have h:=tmQ_succ x i
   have h1:((i+1:Nat):Rat)=(i:Rat)+1:=by push_cast;rfl
   rw [h1,show n+1-(i+1)=n-i by omega,h]
   grind
  rw [e3]
  have:((0:Nat):Rat)=0:=rfl
  rw [this]
  grind
 have e4:sumQ (fun i=>tmQ x i*(((n+1-i:Nat):Rat)*tmQ y (n+1-i))) (n+1)=y*cvQ x y n:=by
  rw [sumQ_succ]
  unfold cvQ
  rw [← sumQ_mul]
  have e5:sumQ (fun i=>tmQ x i*(((n+1-i:Nat):Rat)*tmQ y (n+1-i))) n=sumQ (fun i=>y*(tmQ x i*tmQ y (n-i))) n:=by
   refine sumQ_congr fun i hi=>?_
   have h:=tmQ_succ y (n-i)
   have h1:((n+1-i:Nat):Rat)=((n-i:Nat):Rat)+1:=by
    rw [show n+1-i=n-i+1 by omega];push_cast;rfl
   rw [h1,show n+1-i=n-i+1 by omega,h]
   grind
  rw [e5,Nat.sub_self]
  have:((0:Nat):Rat)=0:=rfl
  rw [this]
  grind
 rw [e1,e2,e4]
 grind
theorem cv_tm (x y:Rat) (n:Nat):cvQ x y n=tmQ (x+y) n:=by
 induction n with
 | zero=>exact Rat.mul_one 1
 | succ n ih =>
  have h1:=cv_step x y n
  have h2:=tmQ_succ (x+y) n
  have h3:=natq_pos n
  rw [ih] at h1
  have h4:((n:Rat)+1)*(cvQ x y (n+1)-tmQ (x+y) (n+1))=0:=by grind
  rcases Rat.mul_eq_zero.1 h4 with h5 | h5
  · grind
  · grind
theorem ex_rows (x y:Rat) (n:Nat):exQ (x+y) n=sumQ (fun i=>tmQ x i*sumQ (tmQ y) (n-i)) n:=by
 induction n with
 | zero =>
  show (1:Rat)=1*1
  exact (Rat.mul_one 1).symm
 | succ n ih =>
  have h:exQ (x+y) (n+1)=exQ (x+y) n+tmQ (x+y) (n+1):=rfl
  rw [h,ih,← cv_tm,sumQ_succ (fun i=>tmQ x i*sumQ (tmQ y) (n+1-i)) n]
  have e1:sumQ (fun i=>tmQ x i*sumQ (tmQ y) (n+1-i)) n=sumQ (fun i=>tmQ x i*sumQ (tmQ y) (n-i)) n+sumQ (fun i=>tmQ x i*tmQ y (n+1-i)) n:=by
   rw [← sumQ_add]
   refine sumQ_congr fun i hi=>?_
   rw [show n+1-i=(n-i)+1 by omega,sumQ_succ]
   grind
  have e2:cvQ x y (n+1)=sumQ (fun i=>tmQ x i*tmQ y (n+1-i)) n+tmQ x (n+1)*tmQ y (n+1-(n+1)):=rfl
  rw [e1,e2,Nat.sub_self]
  have e3:sumQ (tmQ y) 0=tmQ y 0:=rfl
  rw [e3]
  grind
theorem ex_mul_ge {x y:Rat} (hx:0≤x) (hy:0≤y) (n:Nat):exQ (x+y) n≤exQ x n*exQ y n:=by
 rw [ex_rows]
 have h:exQ x n*exQ y n=sumQ (fun i=>tmQ x i*exQ y n) n:=by
  have e:(fun i=>tmQ x i*exQ y n)=fun i=>exQ y n*tmQ x i:=by funext i;exact Rat.mul_comm _ _
  rw [e,sumQ_mul]
  exact Rat.mul_comm _ _
 rw [h]
 exact sumQ_le fun i hi=>Rat.mul_le_mul_of_nonneg_left (exQ_mono hy (by omega)) (tmQ_nonneg hx i)
theorem ex_mul_le {x y:Rat} (hx:0≤x) (hy:0≤y) (n:Nat):exQ x n*exQ y n≤exQ (x+y) (2*n):=by
 rw [ex_rows]
 have h:exQ x n*exQ y n=sumQ (fun i=>tmQ x i*exQ y n) n:=by
  have e:(fun i=>tmQ x i*exQ y n)=fun i=>exQ y n*tmQ x i:=by funext i;exact Rat.mul_comm _ _
  rw [e,sumQ_mul]
  exact Rat.mul_comm _ _
 rw [h]
 have h1:sumQ (fun i=>tmQ x i*exQ y n) n≤sumQ (fun i=>tmQ x i*sumQ (tmQ y) (2*n-i)) n :=
  sumQ_le fun i hi=>Rat.mul_le_mul_of_nonneg_left (exQ_mono hy (show n≤2*n-i by omega)) (tmQ_nonneg hx i)
 refine Rat.le_trans h1 (sumQ_mono (fun i=>?_) (by omega))
 exact Rat.mul_nonneg (tmQ_nonneg hx i) (sumQ_nonneg fun j _=>tmQ_nonneg hy j)
theorem tm_half {x:Rat} (hx:0≤x) (hx2:2*x≤1) (n:Nat):2*tmQ x (n+1)≤tmQ x n:=by
 have h1:=tmQ_succ x n
 have h2:=natq_pos n
 have h3:=tmQ_nonneg hx n
 have h4:=tmQ_nonneg hx (n+1)
 have h5:tmQ x (n+1)≤((n:Rat)+1)*tmQ x (n+1):=by
  have h6:(0:Rat)≤(n:Rat):=by exact_mod_cast Nat.zero_le n
  have:=Rat.mul_nonneg h6 h4
  grind
 have h7:2*(x*tmQ x n)≤tmQ x n:=by
  have:=Rat.mul_le_mul_of_nonneg_right hx2 h3
  grind
 grind
theorem ex_tail {x:Rat} (hx:0≤x) (hx2:2*x≤1) (n m:Nat):exQ x m≤exQ x n+tmQ x n:=by
 have key:∀ d,exQ x (n+d)+tmQ x (n+d)≤exQ x n+tmQ x n:=fun d=>by
  induction d with
  | zero=>exact Rat.le_refl
  | succ d ih =>
   have h1:exQ x (n+(d+1))=exQ x (n+d)+tmQ x (n+d+1):=rfl
   have h2:tmQ x (n+(d+1))=tmQ x (n+d+1):=rfl
   have h3:=tm_half hx hx2 (n+d)
   rw [h1,h2]
   grind
 rcases Nat.lt_or_ge m n with h | h
 · have h1:=exQ_mono hx (Nat.le_of_lt h)
   have h2:=tmQ_nonneg hx n
   grind
 · obtain ⟨d,rfl⟩:∃ d,m=n+d:=⟨m-n,by omega⟩
   have h1:=key d
   have h2:=tmQ_nonneg hx (n+d)
   grind
end Go.Proofs.YtmbmohibpkepdaaGreatDoor
namespace Go.Proofs.YtmbmohibpkepdaaGreatDoor
def gQ (D:Nat→Nat) (x:Rat):Nat→Rat
 | 0=>1
 | n+1=>gQ D x n*x/((D (n+1):Nat):Rat)
def ftN (D:Nat→Nat) (Z b:Nat):Nat→Nat
 | 0=>2^b
 | n+1=>ftN D Z b n*Z/2^b/D (n+1)
def fsN (D:Nat→Nat) (Z b:Nat):Nat→Nat
 | 0=>ftN D Z b 0
 | n+1=>fsN D Z b n+ftN D Z b (n+1)
def Dv (D:Nat→Nat):Prop:=1≤D 1∧∀ n,2≤n→2≤D n
theorem Dv.pos {D:Nat→Nat} (h:Dv D) (n:Nat):1≤D (n+1):=by
 rcases Nat.eq_zero_or_pos n with h0 | h0
 · subst h0;exact h.1
 · have:=h.2 (n+1) (by omega);omega
theorem natq_nonneg (n:Nat):(0:Rat)≤(n:Rat):=by exact_mod_cast Nat.zero_le n
theorem natq_le {a b:Nat} (h:a≤b):(a:Rat)≤(b:Rat):=by exact_mod_cast h
theorem gQ_succ {D:Nat→Nat} (h:Dv D) (x:Rat) (n:Nat):((D (n+1):Nat):Rat)*gQ D x (n+1)=x*gQ D x n:=by
 have h1:=natq_le (h.pos n)
 have h1':((1:Nat):Rat)=1:=rfl
 show ((D (n+1):Nat):Rat)*(gQ D x n*x/((D (n+1):Nat):Rat))=x*gQ D x n
 rw [Rat.div_def]
 have h2:((D (n+1):Nat):Rat)*((D (n+1):Nat):Rat)⁻¹=1:=Rat.mul_inv_cancel _ (by grind)
 grind
theorem gQ_nonneg {D:Nat→Nat} (h:Dv D) {x:Rat} (hx:0≤x) (n:Nat):0≤gQ D x n:=by
 induction n with
 | zero=>show (0:Rat)≤1;decide
 | succ n ih =>
  have h1:=natq_le (h.pos n)
  have h1':((1:Nat):Rat)=1:=rfl
  show 0≤gQ D x n*x/((D (n+1):Nat):Rat)
  rw [Rat.div_def]
  exact Rat.mul_nonneg (Rat.mul_nonneg ih hx) (Rat.le_of_lt (Rat.inv_pos.2 (by grind)))
theorem gQ_half {D:Nat→Nat} (h:Dv D) {x:Rat} (hx:0≤x) (hx2:2*x≤1) (n:Nat):2*gQ D x (n+1)≤gQ D x n:=by
 have h1:=gQ_succ h x n
 have h2:=natq_le (h.pos n)
 have h2':((1:Nat):Rat)=1:=rfl
 have h3:=gQ_nonneg h hx n
 have h4:=gQ_nonneg h hx (n+1)
 have h5:gQ D x (n+1)≤((D (n+1):Nat):Rat)*gQ D x (n+1):=by
  have:=Rat.mul_le_mul_of_nonneg_right h2 h4
  grind
 have h7:2*(x*gQ D x n)≤gQ D x n:=by
  have:=Rat.mul_le_mul_of_nonneg_right hx2 h3
  grind
 grind
theorem gQ_one {D:Nat→Nat} (h:Dv D) {x:Rat} (hx:0≤x) (hx2:2*x≤1) (n:Nat):gQ D x n≤1:=by
 induction n with
 | zero=>exact Rat.le_refl
 | succ n ih =>
  have h1:=gQ_half h hx hx2 n
  have h2:=gQ_nonneg h hx (n+1)
  grind
theorem gQ_tail {D:Nat→Nat} (h:Dv D) {x:Rat} (hx:0≤x) (hx2:2*x≤1) (n m:Nat):sumQ (gQ D x) m≤sumQ (gQ D x) n+gQ D x n:=by
 have key:∀ d,sumQ (gQ D x) (n+d)+gQ D x (n+d)≤sumQ (gQ D x) n+gQ D x n:=fun d=>by
  induction d with
  | zero=>exact Rat.le_refl
  | succ d ih =>
   have h1:sumQ (gQ D x) (n+(d+1))=sumQ (gQ D x) (n+d)+gQ D x (n+d+1):=rfl
   have h2:gQ D x (n+(d+1))=gQ D x (n+d+1):=rfl
   have h3:=gQ_half h hx hx2 (n+d)
   rw [h1,h2]
   grind
 rcases Nat.lt_or_ge m n with h1 | h1
 · have h1:=sumQ_mono (gQ_nonneg h hx) (Nat.le_of_lt h1)
   have h2:=gQ_nonneg h hx n
   grind
 · obtain ⟨d,rfl⟩:∃ d,m=n+d:=⟨m-n,by omega⟩
   have h1:=key d
   have h2:=gQ_nonneg h hx (n+d)
   grind
theorem gQ_tm (x:Rat) (n:Nat):gQ (fun n=>n) x n=tmQ x n:=by
 induction n with
 | zero=>rfl
 | succ n ih =>
  show gQ (fun n=>n) x n*x/((n+1:Nat):Rat)=tmQ x n*x/((n:Rat)+1)
  rw [ih]
  have:((n+1:Nat):Rat)=(n:Rat)+1:=by push_cast;rfl
  rw [this]
structure Zb (z:Rat) (Z b:Nat):Prop where
 z0:0≤z
 z2:2*z≤1
 lo:(Z:Rat)≤z*((2^b:Nat):Rat)
 hi:z*((2^b:Nat):Rat)≤(Z:Rat)+1
 b3:3≤b
theorem p_pos (b:Nat):(0:Rat) < ((2^b:Nat):Rat):=by
 have:=Nat.two_pow_pos b
 exact_mod_cast this
theorem ft_cut (D:Nat→Nat) (Z b n:Nat):ftN D Z b (n+1)*(2^b*D (n+1))≤ftN D Z b n*Z:=by
 show ftN D Z b n*Z/2^b/D (n+1)*(2^b*D (n+1))≤ftN D Z b n*Z
 rw [Nat.div_div_eq_div_mul]
 exact Nat.div_mul_le_self _ _
theorem ft_cut2 {D:Nat→Nat} (h:Dv D) (Z b n:Nat):ftN D Z b n*Z < (ftN D Z b (n+1)+1)*(2^b*D (n+1)):=by
 show ftN D Z b n*Z < (ftN D Z b n*Z/2^b/D (n+1)+1)*(2^b*D (n+1))
 rw [Nat.div_div_eq_div_mul]
 exact Nat.lt_mul_of_div_lt (Nat.lt_succ_self _) (Nat.mul_pos (Nat.two_pow_pos b) (h.pos n))
theorem ft_le {D:Nat→Nat} (h:Dv D) {z:Rat} {Z b:Nat} (hz:Zb z Z b) (n:Nat):((ftN D Z b n:Nat):Rat)≤gQ D z n*((2^b:Nat):Rat):=by
 induction n with
 | zero =>
  show ((2^b:Nat):Rat)≤1*((2^b:Nat):Rat)
  rw [Rat.one_mul]
  exact Rat.le_refl
 | succ n ih =>
  have h1:=natq_le (ft_cut D Z b n)
  have h2:=gQ_succ h z n
  have hD:=natq_le (h.pos n)
  have hD':((1:Nat):Rat)=1:=rfl
  have hp:=p_pos b
  have ht:=natq_nonneg (ftN D Z b n)
  have hZ:=natq_nonneg Z
  have hg:=gQ_nonneg h hz.z0 n
  push_cast at h1
  generalize ((ftN D Z b (n+1):Nat):Rat)=t' at *
  generalize ((ftN D Z b n:Nat):Rat)=t at *
  generalize ((D (n+1):Nat):Rat)=d at *
  generalize gQ D z (n+1)=g' at *
  generalize gQ D z n=g at *
  have hpp:((2:Rat)^b)=((2^b:Nat):Rat):=by push_cast;rfl
  rw [hpp] at h1
  have hlo:=hz.lo
  generalize ((2^b:Nat):Rat)=p at *
  generalize (Z:Rat)=y at *
  have a1:t*y≤g*p*y:=Rat.mul_le_mul_of_nonneg_right ih hZ
  have a2:g*p*y≤g*p*(z*p):=Rat.mul_le_mul_of_nonneg_left hlo (Rat.mul_nonneg hg (Rat.le_of_lt hp))
  have a3:g*p*(z*p)=d*g'*p*p:=by rw [h2];grind
  have hpd:0 < p*d:=Rat.mul_pos hp (by grind)
  have a4:t'*(p*d)≤g'*p*(p*d):=by grind
  exact Rat.le_of_mul_le_mul_right a4 hpd
theorem ft_ge {D:Nat→Nat} (h:Dv D) {z:Rat} {Z b:Nat} (hz:Zb z Z b) (n:Nat):gQ D z n*((2^b:Nat):Rat)≤((ftN D Z b n:Nat):Rat)+4:=by
 induction n with
 | zero =>
  show 1*((2^b:Nat):Rat)≤((2^b:Nat):Rat)+4
  grind
 | succ n ih =>
  have h1:=natq_le (Nat.le_of_lt (ft_cut2 h Z b n))
  have h2:=gQ_succ h z n
  have hD:=natq_le (h.pos n)
  have hD':((1:Nat):Rat)=1:=rfl
  have hp:=p_pos b
  have ht:=natq_nonneg (ftN D Z b n)
  have ht':=natq_nonneg (ftN D Z b (n+1))
  have hZ:=natq_nonneg Z
  have hg:=gQ_nonneg h hz.z0 n
  have hg1:=gQ_one h hz.z0 hz.z2 n
  have hle:=ft_le h hz n
  have hb8:(8:Rat)≤((2^b:Nat):Rat):=by
   have:2^3≤2^b:=Nat.pow_le_pow_right (by omega) hz.b3
   exact_mod_cast this
  have hn0:n=0→((ftN D Z b n:Nat):Rat)=((2^b:Nat):Rat)∧gQ D z n=1:=fun h0=>by subst h0;exact ⟨rfl,rfl⟩
  have hn1:n≠0→(2:Rat)≤((D (n+1):Nat):Rat):=fun h0=>by
   have:=natq_le (h.2 (n+1) (by omega))
   exact this
  push_cast at h1
  generalize ((ftN D Z b (n+1):Nat):Rat)=t' at *
  generalize ((ftN D Z b n:Nat):Rat)=t at *
  generalize ((D (n+1):Nat):Rat)=d at *
  generalize gQ D z (n+1)=g' at *
  generalize gQ D z n=g at *
  have hpp:((2:Rat)^b)=((2^b:Nat):Rat):=by push_cast;rfl
  rw [hpp] at h1
  have hlo:=hz.lo
  have hhi:=hz.hi
  have hz0:=hz.z0
  have hz2:=hz.z2
  generalize ((2^b:Nat):Rat)=p at *
  generalize (Z:Rat)=y at *
  have hpd:0 < p*d:=Rat.mul_pos hp (by grind)
  have a0:g'*p*(p*d)=g*p*(z*p):=by
   have:g'*p*(p*d)=d*g'*(p*p):=by grind
   rw [this,h2];grind
  have a4:g'*p*(p*d)≤(t'+4)*(p*d):=by
   by_cases h0:n=0
   · obtain ⟨e1,e2⟩:=hn0 h0
     rw [a0,e2]
     rw [e1] at h1
     have b1:1*p*(z*p)≤p*(y+1):=by
      have:=Rat.mul_le_mul_of_nonneg_left hhi (Rat.le_of_lt hp)
      grind
     have b2:p≤p*d:=by
      have:=Rat.mul_le_mul_of_nonneg_left hD (Rat.le_of_lt hp)
      grind
     grind
   · have hd2:=hn1 h0
     rw [a0]
     have b1:g*p*(z*p)≤(t+4)*(z*p):=Rat.mul_le_mul_of_nonneg_right ih (Rat.mul_nonneg hz0 (Rat.le_of_lt hp))
     have b2:(t+4)*(z*p)≤(t+4)*(y+1):=Rat.mul_le_mul_of_nonneg_left hhi (by grind)
     have b3:t≤p:=by
      have:=Rat.mul_le_mul_of_nonneg_right hg1 (Rat.le_of_lt hp)
      grind
     have b4:2*y≤p:=by
      have:=Rat.mul_le_mul_of_nonneg_right hz2 (Rat.le_of_lt hp)
      grind
     have b5:2*p≤p*d:=by
      have:=Rat.mul_le_mul_of_nonneg_left hd2 (Rat.le_of_lt hp)
      grind
     grind
  exact Rat.le_of_mul_le_mul_right a4 hpd
theorem fs_le {D:Nat→Nat} (h:Dv D) {z:Rat} {Z b:Nat} (hz:Zb z Z b) (n:Nat):((fsN D Z b n:Nat):Rat)≤sumQ (gQ D z) n*((2^b:Nat):Rat):=by
 induction n with
 | zero=>exact ft_le h hz 0
 | succ n ih =>
  have h1:=ft_le h hz (n+1)
  show ((fsN D Z b n+ftN D Z b (n+1):Nat):Rat)≤(sumQ (gQ D z) n+gQ D z (n+1))*((2^b:Nat):Rat)
  have e:((fsN D Z b n+ftN D Z b (n+1):Nat):Rat)=((fsN D Z b n:Nat):Rat)+((ftN D Z b (n+1):Nat):Rat):=by push_cast;rfl
  rw [e]
  grind
theorem fs_ge {D:Nat→Nat} (h:Dv D) {z:Rat} {Z b:Nat} (hz:Zb z Z b) (n:Nat):sumQ (gQ D z) n*((2^b:Nat):Rat)≤((fsN D Z b n:Nat):Rat)+4*((n:Rat)+1):=by
 induction n with
 | zero =>
  have h1:=ft_ge h hz 0
  show gQ D z 0*((2^b:Nat):Rat)≤((ftN D Z b 0:Nat):Rat)+4*(((0:Nat):Rat)+1)
  have:((0:Nat):Rat)=0:=rfl
  grind
 | succ n ih =>
  have h1:=ft_ge h hz (n+1)
  show (sumQ (gQ D z) n+gQ D z (n+1))*((2^b:Nat):Rat)≤((fsN D Z b n+ftN D Z b (n+1):Nat):Rat)+4*(((n+1:Nat):Rat)+1)
  have e:((fsN D Z b n+ftN D Z b (n+1):Nat):Rat)=((fsN D Z b n:Nat):Rat)+((ftN D Z b (n+1):Nat):Rat):=by push_cast;rfl
  have e2:((n+1:Nat):Rat)=(n:Rat)+1:=by push_cast;rfl
  rw [e,e2]
  grind
theorem fs_all {D:Nat→Nat} (h:Dv D) {z:Rat} {Z b n:Nat} (hz:Zb z Z b) (hn:ftN D Z b n=0) (m:Nat):sumQ (gQ D z) m*((2^b:Nat):Rat)≤((fsN D Z b n:Nat):Rat)+4*((n:Rat)+2):=by
 have h1:=fs_ge h hz n
 have h2:=ft_ge h hz n
 have h3:=gQ_tail h hz.z0 hz.z2 n m
 have h4:=Rat.mul_le_mul_of_nonneg_right h3 (Rat.le_of_lt (p_pos b))
 rw [hn] at h2
 have:((0:Nat):Rat)=0:=rfl
 grind
theorem ft_halves {D:Nat→Nat} {Z b:Nat} (hZ:2*Z≤2^b) (n:Nat):2*ftN D Z b (n+1)≤ftN D Z b n:=by
 show 2*(ftN D Z b n*Z/2^b/D (n+1))≤ftN D Z b n
 have h1:ftN D Z b n*Z/2^b/D (n+1)≤ftN D Z b n*Z/2^b:=Nat.div_le_self _ _
 have h2:ftN D Z b n*Z/2^b*2^b≤ftN D Z b n*Z:=Nat.div_mul_le_self _ _
 have h3:ftN D Z b n*(2*Z)≤ftN D Z b n*2^b:=Nat.mul_le_mul_left _ hZ
 have h4:2*(ftN D Z b n*Z/2^b)*2^b≤ftN D Z b n*2^b:=by
  have:2*(ftN D Z b n*Z/2^b)*2^b=2*(ftN D Z b n*Z/2^b*2^b):=Nat.mul_assoc _ _ _
  have:ftN D Z b n*(2*Z)=2*(ftN D Z b n*Z):=by rw [Nat.mul_left_comm]
  omega
 have h5:=Nat.le_of_mul_le_mul_right h4 (Nat.two_pow_pos b)
 omega
theorem ft_end {D:Nat→Nat} {Z b:Nat} (hZ:2*Z≤2^b) (n:Nat):ftN D Z b n*2^n≤2^b:=by
 induction n with
 | zero=>show 2^b*2^0≤2^b;rw [Nat.pow_zero,Nat.mul_one];exact Nat.le_refl _
 | succ n ih =>
  have h1:=Nat.mul_le_mul_right (2^n) (ft_halves (D:=D) hZ n)
  rw [Nat.pow_succ]
  have:ftN D Z b (n+1)*(2^n*2)=2*ftN D Z b (n+1)*2^n:=by rw [Nat.mul_comm (2^n) 2,← Nat.mul_assoc,Nat.mul_comm _ 2]
  omega
theorem ft_nought {D:Nat→Nat} {Z b n:Nat} (hZ:2*Z≤2^b) (hn:b < n):ftN D Z b n=0:=by
 rcases Nat.eq_zero_or_pos (ftN D Z b n) with h0 | h0
 · exact h0
 · exfalso
   have h1:=ft_end (D:=D) hZ n
   have h2:2^n≤ftN D Z b n*2^n:=Nat.le_mul_of_pos_left _ h0
   have h3:2^b < 2^n:=Nat.pow_lt_pow_right (by omega) hn
   omega
end Go.Proofs.YtmbmohibpkepdaaGreatDoor
namespace Go.Proofs.YtmbmohibpkepdaaGreatDoor
def tw (e:Int):Rat:=(2:Rat)^e
theorem tw_pos (e:Int):0 < tw e:=Rat.zpow_pos (by decide)
theorem tw_add (a b:Int):tw (a+b)=tw a*tw b:=Rat.zpow_add (by decide) a b
theorem tw_nat (n:Nat):tw (n:Int)=((2^n:Nat):Rat):=by
 unfold tw
 rw [Rat.zpow_natCast]
 induction n with
 | zero=>rfl
 | succ n ih=>rw [Rat.pow_succ,ih,Nat.pow_succ];push_cast;rfl
theorem tw_zero:tw 0=1:=rfl
theorem tw_inv (n:Nat):tw (-(n:Int))*((2^n:Nat):Rat)=1:=by
 rw [← tw_nat,← tw_add,show -(n:Int)+(n:Int)=0 by omega,tw_zero]
theorem tw_mono {a b:Int} (h:a≤b):tw a≤tw b:=by
 obtain ⟨n,rfl⟩:∃ n:Nat,b=a+n:=⟨(b-a).toNat,by omega⟩
 rw [tw_add,tw_nat]
 have h1:(1:Rat)≤((2^n:Nat):Rat):=by
  have:=Nat.two_pow_pos n
  exact_mod_cast this
 have:=Rat.mul_le_mul_of_nonneg_left h1 (Rat.le_of_lt (tw_pos a))
 grind
structure Ex (y:Rat) (m:Nat) (e:Int) (a:Rat):Prop where
 y0:0≤y
 a0:0≤a
 a1:a≤1
 lo:∃ n,(m:Rat)*tw e≤exQ y n
 hi:∀ n,exQ y n*(1-a)≤(m:Rat)*tw e
theorem sq_le {a b:Rat} (h0:0≤a) (h:a≤b):a*a≤b*b:=by
 have h1:=Rat.mul_le_mul_of_nonneg_left h h0
 have h2:=Rat.mul_le_mul_of_nonneg_right h (Rat.le_trans h0 h)
 exact Rat.le_trans h1 h2
theorem Ex.sq {y:Rat} {m:Nat} {e:Int} {a:Rat} (h:Ex y m e a) {d B:Nat} (hB:2^B≤m*m/2^d+1) (ha:2*a+tw (-(B:Int))≤1) :
 Ex (2*y) (m*m/2^d) (2*e+(d:Int)) (2*a+tw (-(B:Int))):=by
 have hs:=tw_pos (-(B:Int))
 have ha0:=h.a0
 have hm:=natq_nonneg m
 have hte:=tw_pos e
 have htt:tw (2*e+(d:Int))=tw e*tw e*((2^d:Nat):Rat):=by
  rw [tw_add,tw_nat,show 2*e=e+e by omega,tw_add]
 have c1:((m*m/2^d:Nat):Rat)*((2^d:Nat):Rat)≤(m:Rat)*(m:Rat):=by
  have:=natq_le (Nat.div_mul_le_self (m*m) (2^d))
  have e1:((m*m/2^d*2^d:Nat):Rat)=((m*m/2^d:Nat):Rat)*((2^d:Nat):Rat):=Rat.natCast_mul _ _
  have e2:((m*m:Nat):Rat)=(m:Rat)*(m:Rat):=Rat.natCast_mul _ _
  rw [e1,e2] at this
  exact this
 have c2:(m:Rat)*(m:Rat)≤(((m*m/2^d:Nat):Rat)+1)*((2^d:Nat):Rat):=by
  have:=natq_le (Nat.le_of_lt (Nat.lt_mul_of_div_lt (Nat.lt_succ_self (m*m/2^d)) (Nat.two_pow_pos d)))
  have e1:(((m*m/2^d).succ*2^d:Nat):Rat)=(((m*m/2^d).succ:Nat):Rat)*((2^d:Nat):Rat):=Rat.natCast_mul _ _
  have e2:((m*m:Nat):Rat)=(m:Rat)*(m:Rat):=Rat.natCast_mul _ _
  have e3:(((m*m/2^d).succ:Nat):Rat)=((m*m/2^d:Nat):Rat)+1:=Rat.natCast_add _ 1
  rw [e1,e2,e3] at this
  exact this
 have c3:1≤tw (-(B:Int))*(((m*m/2^d:Nat):Rat)+1):=by
  have h1:=natq_le hB
  have e3:((m*m/2^d+1:Nat):Rat)=((m*m/2^d:Nat):Rat)+1:=Rat.natCast_add _ 1
  rw [e3] at h1
  have h2:=Rat.mul_le_mul_of_nonneg_left h1 (Rat.le_of_lt hs)
  rw [tw_inv] at h2
  exact h2
 have hp:=p_pos d
 have hq:=natq_nonneg (m*m/2^d)
 refine ⟨by have:=h.y0;grind,by grind,ha,?_,fun n=>?_⟩
 · obtain ⟨n,hn⟩:=h.lo
   refine ⟨2*n,?_⟩
   have h1:=ex_mul_le h.y0 h.y0 n
   rw [show y+y=2*y by grind] at h1
   have h2:=sq_le (Rat.mul_nonneg hm (Rat.le_of_lt hte)) hn
   rw [htt]
   have h3:=Rat.mul_le_mul_of_nonneg_right c1 (Rat.le_of_lt (Rat.mul_pos hte hte))
   grind
 · have h1:=ex_mul_ge h.y0 h.y0 n
   rw [show y+y=2*y by grind] at h1
   have h2:=h.hi n
   have hE:=exQ_one h.y0 n
   have h3:0≤exQ y n*(1-a):=Rat.mul_nonneg (by grind) (by have:=h.a1;grind)
   have h4:=sq_le h3 h2
   rw [htt]
   generalize exQ (2*y) n=F at *
   generalize exQ y n=E at *
   generalize ((m*m/2^d:Nat):Rat)=q at *
   generalize ((2^d:Nat):Rat)=p at *
   generalize tw (-(B:Int))=s at *
   generalize tw e=t at *
   generalize (m:Rat)=M at *
   clear hB htt h2 h3
   have ha1:=h.a1
   clear h
   have htp:0≤t*t:=Rat.le_of_lt (Rat.mul_pos hte hte)
   have s1:0≤1-s:=by grind
   have k1:F*(1-(2*a+s))≤E*E*(1-(2*a+s)):=Rat.mul_le_mul_of_nonneg_right h1 (by grind)
   have k2:1-(2*a+s)≤(1-a)*(1-a)*(1-s):=by
    have x1:0≤a*a:=Rat.mul_nonneg ha0 ha0
    have x2:0≤a*s:=Rat.mul_nonneg ha0 (Rat.le_of_lt hs)
    have x3:0≤a*a*(1-s):=Rat.mul_nonneg x1 s1
    grind
   have k3:E*E*(1-(2*a+s))≤E*E*((1-a)*(1-a)*(1-s)):=Rat.mul_le_mul_of_nonneg_left k2 (Rat.mul_nonneg (by grind) (by grind))
   have k4:E*(1-a)*(E*(1-a))*(1-s)≤M*t*(M*t)*(1-s):=Rat.mul_le_mul_of_nonneg_right h4 s1
   have k5:M*M*(t*t*(1-s))≤(q+1)*p*(t*t*(1-s)):=Rat.mul_le_mul_of_nonneg_right c2 (Rat.mul_nonneg htp s1)
   have k6:(q+1)*(1-s)≤q:=by grind
   have k7:(q+1)*(1-s)*(p*(t*t))≤q*(p*(t*t)):=Rat.mul_le_mul_of_nonneg_right k6 (Rat.mul_nonneg (Rat.le_of_lt hp) htp)
   grind
theorem Ex.start {z:Rat} {Z b n:Nat} (hz:Zb z Z b) (hn:ftN (fun n=>n) Z b n=0) (ha:4*((n:Rat)+2)*tw (-(b:Int))≤1) :
 Ex z (fsN (fun n=>n) Z b n) (-(b:Int)) (4*((n:Rat)+2)*tw (-(b:Int))):=by
 have hD:Dv (fun n=>n):=⟨Nat.le_refl _,fun n hn=>hn⟩
 have hs:=tw_pos (-(b:Int))
 have hp:=p_pos b
 have hi:=tw_inv b
 have hn0:=natq_nonneg n
 have hg:∀ m,sumQ (gQ (fun n=>n) z) m=exQ z m:=fun m=>sumQ_congr fun i _=>gQ_tm z i
 have hge:((2^b:Nat):Rat)≤((fsN (fun n=>n) Z b n:Nat):Rat):=natq_le (by
  have:∀ k,2^b≤fsN (fun n=>n) Z b k:=fun k=>by
   induction k with
   | zero=>exact Nat.le_refl _
   | succ k ih=>exact Nat.le_trans ih (Nat.le_add_right _ _)
  exact this n)
 refine ⟨hz.z0,Rat.mul_nonneg (by grind) (Rat.le_of_lt hs),ha,⟨n,?_⟩,fun m=>?_⟩
 · have h1:=fs_le hD hz n
   rw [hg] at h1
   have h2:=Rat.mul_le_mul_of_nonneg_right h1 (Rat.le_of_lt hs)
   generalize exQ z n=E at *
   generalize ((fsN (fun n=>n) Z b n:Nat):Rat)=s at *
   generalize ((2^b:Nat):Rat)=p at *
   generalize tw (-(b:Int))=t at *
   have:E*p*t=E:=by
    have:E*p*t=E*(t*p):=by grind
    rw [this,hi,Rat.mul_one]
   grind
 · have h1:=fs_all hD hz hn m
   rw [hg] at h1
   have hE:0≤exQ z m:=by have:=exQ_one hz.z0 m;grind
   generalize exQ z m=E at *
   generalize ((fsN (fun n=>n) Z b n:Nat):Rat)=s at *
   generalize ((2^b:Nat):Rat)=p at *
   generalize tw (-(b:Int))=t at *
   generalize hL:4*((n:Rat)+2)=L at *
   have hL0:0≤L:=by grind
   have k1:E*p*t≤(s+L)*t:=Rat.mul_le_mul_of_nonneg_right h1 (Rat.le_of_lt hs)
   have k2:E*p*t=E:=by
    have:E*p*t=E*(t*p):=by grind
    rw [this,hi,Rat.mul_one]
   have k3:E*(1-L*t)≤(s+L)*t*(1-L*t):=Rat.mul_le_mul_of_nonneg_right (by grind) (by grind)
   have k4:L≤(s+L)*(L*t):=by
    have x1:p*(L*t)≤s*(L*t):=Rat.mul_le_mul_of_nonneg_right hge (Rat.mul_nonneg hL0 (Rat.le_of_lt hs))
    have x2:p*(L*t)=L:=by
     have:p*(L*t)=L*(t*p):=by grind
     rw [this,hi,Rat.mul_one]
    have x3:0≤L*(L*t):=Rat.mul_nonneg hL0 (Rat.mul_nonneg hL0 (Rat.le_of_lt hs))
    grind
   have k5:(s+L)*(1-L*t)≤s:=by grind
   have k6:(s+L)*(1-L*t)*t≤s*t:=Rat.mul_le_mul_of_nonneg_right k5 (Rat.le_of_lt hs)
   grind
end Go.Proofs.YtmbmohibpkepdaaGreatDoor
namespace Go.Proofs.YtmbmohibpkepdaaGreatDoor
def sqP (B:Nat) (p:Nat×Int):Nat×Int:=(p.1*p.1/2^(nb (p.1*p.1)-B),2*p.2+((nb (p.1*p.1)-B:Nat):Int))
def powP (B:Nat) (p:Nat×Int):Nat→Nat×Int
 | 0=>p
 | k+1=>sqP B (powP B p k)
def aQ (a s:Rat):Nat→Rat
 | 0=>a
 | k+1=>2*aQ a s k+s
theorem aQ_eq (a s:Rat) (k:Nat):aQ a s k=((2^k:Nat):Rat)*(a+s)-s:=by
 induction k with
 | zero =>
  show a=((2^0:Nat):Rat)*(a+s)-s
  have:((2^0:Nat):Rat)=1:=rfl
  rw [this];grind
 | succ k ih =>
  show 2*aQ a s k+s=((2^(k+1):Nat):Rat)*(a+s)-s
  have:((2^(k+1):Nat):Rat)=2*((2^k:Nat):Rat):=by rw [Nat.pow_succ,Nat.mul_comm];exact Rat.natCast_mul 2 _
  rw [ih,this];grind
theorem aQ_mono {a s:Rat} (ha:0≤a) (hs:0≤s) {k l:Nat} (h:k≤l):aQ a s k≤aQ a s l∧0≤aQ a s k:=by
 have h0:∀ k,0≤aQ a s k:=fun k=>by
  induction k with
  | zero=>exact ha
  | succ k ih=>show 0≤2*aQ a s k+s;grind
 refine ⟨?_,h0 k⟩
 induction l with
 | zero =>
  obtain rfl:k=0:=by omega
  exact Rat.le_refl
 | succ l ih =>
  rcases Nat.lt_or_ge l k with h1 | h1
  · obtain rfl:k=l+1:=by omega
    exact Rat.le_refl
  · have h2:=ih h1
    have h3:=h0 l
    show aQ a s k≤2*aQ a s l+s
    grind
theorem sq_bits {B m:Nat} (hB:1≤B) (h:B≤nb m):nb (sqP B (m,0)).1=B:=by
 have h0:0 < m:=by
  rcases Nat.eq_zero_or_pos m with h1 | h1
  · subst h1;rw [nb_zero] at h;omega
  · exact h1
 have h1:=nb_ge h0
 have h2:2^(nb m-1)*2^(nb m-1)≤m*m:=Nat.mul_le_mul h1 h1
 rw [← Nat.pow_add] at h2
 have h3:nb m-1+(nb m-1) < nb (m*m):=by
  rcases Nat.lt_or_ge (nb m-1+(nb m-1)) (nb (m*m)) with h4 | h4
  · exact h4
  · have h5:=nb_lt (m*m)
    have h6:2^nb (m*m)≤2^(nb m-1+(nb m-1)):=Nat.pow_le_pow_right (by omega) h4
    omega
 show nb (m*m/2^(nb (m*m)-B))=B
 rw [nb_div_pow]
 omega
theorem pow_bits {B:Nat} {p:Nat×Int} (hB:1≤B) (h:B≤nb p.1) (k:Nat):B≤nb (powP B p k).1:=by
 induction k with
 | zero=>exact h
 | succ k ih=>exact Nat.le_of_eq (sq_bits hB ih).symm
theorem Ex.pow {z:Rat} {B:Nat} {p:Nat×Int} {a:Rat} (h:Ex z p.1 p.2 a) (hB:1≤B) (hp:B≤nb p.1) (k:Nat) (hk:aQ a (tw (-((B-1:Nat):Int))) k≤1) :
 Ex (((2^k:Nat):Rat)*z) (powP B p k).1 (powP B p k).2 (aQ a (tw (-((B-1:Nat):Int))) k):=by
 have hs:=Rat.le_of_lt (tw_pos (-((B-1:Nat):Int)))
 induction k with
 | zero =>
  have:((2^0:Nat):Rat)=1:=rfl
  rw [this,Rat.one_mul]
  exact h
 | succ k ih =>
  have h1:=ih (Rat.le_trans (aQ_mono h.a0 hs (Nat.le_succ k)).1 hk)
  have h2:=sq_bits hB (pow_bits hB hp k)
  have h3:=nb_ge (V:=(sqP B ((powP B p k).1,0)).1) (by
   rcases Nat.eq_zero_or_pos (sqP B ((powP B p k).1,0)).1 with h4 | h4
   · rw [h4,nb_zero] at h2;omega
   · exact h4)
  rw [h2] at h3
  have h4:=h1.sq (d:=nb ((powP B p k).1*(powP B p k).1)-B) (B:=B-1) (Nat.le_succ_of_le h3) hk
  have e:((2^(k+1):Nat):Rat)*z=2*(((2^k:Nat):Rat)*z):=by
   have:((2^(k+1):Nat):Rat)=2*((2^k:Nat):Rat):=by rw [Nat.pow_succ,Nat.mul_comm];exact Rat.natCast_mul 2 _
   rw [this];grind
  rw [e]
  exact h4
theorem Ex.span {y:Rat} {m lost:Nat} {e:Int} {a:Rat} (h:Ex y m e a) (ha:a < 1) (hl:((m:Rat)+(lost:Rat))*a≤(lost:Rat)) (n:Nat):exQ y n≤((m:Rat)+(lost:Rat))*tw e:=by
 have h1:=h.hi n
 have ht:=tw_pos e
 generalize (m:Rat)=M at *
 generalize (lost:Rat)=l at *
 generalize exQ y n=E at *
 have k1:M≤(M+l)*(1-a):=by grind
 have k2:M*tw e≤(M+l)*(1-a)*tw e:=Rat.mul_le_mul_of_nonneg_right k1 (Rat.le_of_lt ht)
 have k3:E*(1-a)≤(M+l)*tw e*(1-a):=by grind
 exact Rat.le_of_mul_le_mul_right k3 (by grind)
end Go.Proofs.YtmbmohibpkepdaaGreatDoor
namespace Go.Proofs.YtmbmohibpkepdaaGreatDoor
theorem fs_big (D:Nat→Nat) (Z b k:Nat):2^b≤fsN D Z b k:=by
 induction k with
 | zero=>exact Nat.le_refl _
 | succ k ih=>exact Nat.le_trans ih (Nat.le_add_right _ _)
theorem tw_natmul (k:Nat) (e:Int):((2^k:Nat):Rat)*tw e=tw ((k:Int)+e):=by rw [tw_add,tw_nat]
def pwN (Z B h:Nat):Nat×Int:=powP B (fsN (fun n=>n) Z B (B+1),-(B:Int)) h
theorem Zb.two {z:Rat} {Z B:Nat} (hz:Zb z Z B):2*Z≤2^B:=by
 have h1:=hz.lo
 have h2:=hz.z2
 have hp:=p_pos B
 have h3:=Rat.mul_le_mul_of_nonneg_right h2 (Rat.le_of_lt hp)
 have h4:((2*Z:Nat):Rat)≤((2^B:Nat):Rat):=by
  have e:((2*Z:Nat):Rat)=2*(Z:Rat):=Rat.natCast_mul 2 Z
  rw [e]
  grind
 exact_mod_cast h4
theorem power_holds {z:Rat} {Z B h P:Nat} (hz:Zb z Z B) (hB:B=P+64+h) (hBl:B≤200000) :
 B≤nb (pwN Z B h).1∧(∃ n,((pwN Z B h).1:Rat)*tw (pwN Z B h).2≤exQ (((2^h:Nat):Rat)*z) n) ∧
  ∀ n,exQ (((2^h:Nat):Rat)*z) n≤(((pwN Z B h).1:Rat)+((2^(nb (pwN Z B h).1-(P+32)):Nat):Rat))*tw (pwN Z B h).2:=by
 have hB1:1≤B:=by omega
 have hn:ftN (fun n=>n) Z B (B+1)=0:=ft_nought hz.two (Nat.lt_succ_self B)
 have hbig:=fs_big (fun n=>n) Z B (B+1)
 have hnb:B≤nb (fsN (fun n=>n) Z B (B+1)):=by
  rcases Nat.lt_or_ge (nb (fsN (fun n=>n) Z B (B+1))) B with h1 | h1
  · have h2:=(nb_le_iff (fsN (fun n=>n) Z B (B+1)) (B-1)).1 (by omega)
    have h3:2^(B-1)≤2^B:=Nat.pow_le_pow_right (by omega) (by omega)
    omega
  · exact h1
 have hL:4*(((B+1:Nat):Rat)+2)+2≤((2^20:Nat):Rat):=by
  have h1:4*(B+3)+2≤2^20:=by omega
  have h2:=natq_le h1
  have e:((4*(B+3)+2:Nat):Rat)=4*(((B+1:Nat):Rat)+2)+2:=by push_cast;grind
  rw [e] at h2
  exact h2
 have hs:=tw_pos (-(B:Int))
 have hss:tw (-((B-1:Nat):Int))=2*tw (-(B:Int)):=by
  have h1:-((B-1:Nat):Int)=((1:Nat):Int)+-(B:Int):=by omega
  rw [h1,tw_add,tw_nat]
  rfl
 have hn0:=natq_nonneg (B+1)
 have ha:4*(((B+1:Nat):Rat)+2)*tw (-(B:Int))≤tw (20-(B:Int)):=by
  have e:tw (20-(B:Int))=((2^20:Nat):Rat)*tw (-(B:Int)):=by
   rw [tw_natmul];congr 1
  rw [e]
  refine Rat.mul_le_mul_of_nonneg_right ?_ (Rat.le_of_lt hs)
  grind
 have hone:tw (20-(B:Int))≤1:=by
  have:=tw_mono (show 20-(B:Int)≤0 by omega)
  rw [tw_zero] at this
  exact this
 have S:=Ex.start hz hn (Rat.le_trans ha hone)
 have hA:aQ (4*(((B+1:Nat):Rat)+2)*tw (-(B:Int))) (tw (-((B-1:Nat):Int))) h≤tw (-((P+44:Nat):Int)):=by
  rw [aQ_eq,hss]
  have e:tw (-((P+44:Nat):Int))=((2^h:Nat):Rat)*(((2^20:Nat):Rat)*tw (-(B:Int))):=by
   rw [tw_natmul,tw_natmul]
   congr 1 <;> omega
  rw [e]
  have h1:4*(((B+1:Nat):Rat)+2)*tw (-(B:Int))+2*tw (-(B:Int))≤((2^20:Nat):Rat)*tw (-(B:Int)):=by
   have:=Rat.mul_le_mul_of_nonneg_right hL (Rat.le_of_lt hs)
   grind
  have h2:=Rat.mul_le_mul_of_nonneg_left h1 (natq_nonneg (2^h))
  grind
 have hA1:tw (-((P+44:Nat):Int)) < 1:=by
  have h1:=tw_mono (show -((P+44:Nat):Int)≤-1 by omega)
  have h2:2*tw (-1)=1:=tw_inv 1 |> fun h=>by
   have e:((2^1:Nat):Rat)=2:=rfl
   rw [e] at h
   have e2:tw (-((1:Nat):Int))=tw (-1):=rfl
   rw [e2] at h
   grind
  have h3:=tw_pos (-1)
  grind
 have W:=S.pow (p:=(fsN (fun n=>n) Z B (B+1),-(B:Int))) hB1 hnb h (Rat.le_trans hA (Rat.le_of_lt hA1))
 have hnbm:=pow_bits (p:=(fsN (fun n=>n) Z B (B+1),-(B:Int))) hB1 hnb h
 refine ⟨hnbm,W.lo,fun n=>?_⟩
 refine W.span (by grind) ?_ n
 have hnbm':B≤nb (pwN Z B h).1:=hnbm
 have hm:((pwN Z B h).1:Rat)≤((2^nb (pwN Z B h).1:Nat):Rat):=natq_le (Nat.le_of_lt (nb_lt _))
 have hl:((2^(nb (pwN Z B h).1-(P+32)):Nat):Rat)≤((2^nb (pwN Z B h).1:Nat):Rat):=natq_le (Nat.pow_le_pow_right (by omega) (Nat.sub_le _ _))
 have hlost:((2^(nb (pwN Z B h).1-(P+32)):Nat):Rat)=((2^nb (pwN Z B h).1:Nat):Rat)*tw (-((P+32:Nat):Int)):=by
  rw [tw_natmul,← tw_nat]
  congr 1 <;> omega
 have h44:tw (-((P+32:Nat):Int))=((2^12:Nat):Rat)*tw (-((P+44:Nat):Int)):=by
  rw [tw_natmul]
  congr 1 <;> omega
 have h12:((2^12:Nat):Rat)=4096:=rfl
 have ht:=tw_pos (-((P+44:Nat):Int))
 have hx:=p_pos (nb (pwN Z B h).1)
 have hm0:=natq_nonneg (pwN Z B h).1
 have hl0:=natq_nonneg (2^(nb (pwN Z B h).1-(P+32)))
 have hA0:=(aQ_mono (k:=h) (l:=h) S.a0 (Rat.le_of_lt (tw_pos (-((B-1:Nat):Int)))) (Nat.le_refl h)).2
 change (((pwN Z B h).1:Rat)+((2^(nb (pwN Z B h).1-(P+32)):Nat):Rat))*aQ (4*(((B+1:Nat):Rat)+2)*tw (-(B:Int))) (tw (-((B-1:Nat):Int))) h≤((2^(nb (pwN Z B h).1-(P+32)):Nat):Rat)
 generalize aQ (4*(((B+1:Nat):Rat)+2)*tw (-(B:Int))) (tw (-((B-1:Nat):Int))) h=a at *
 rw [hlost] at hl hl0 ⊢
 rw [h44,h12] at hl hl0 ⊢
 generalize ((pwN Z B h).1:Rat)=m at *
 generalize ((2^nb (pwN Z B h).1:Nat):Rat)=x at *
 generalize tw (-((P+44:Nat):Int))=t at *
 have k1:(m+x*(4096*t))*a≤(x+x)*a:=Rat.mul_le_mul_of_nonneg_right (by grind) hA0
 have k2:(x+x)*a≤(x+x)*t:=Rat.mul_le_mul_of_nonneg_left hA (by grind)
 have k3:0≤x*t:=Rat.le_of_lt (Rat.mul_pos hx ht)
 grind
end Go.Proofs.YtmbmohibpkepdaaGreatDoor
namespace Go.Proofs.YtmbmohibpkepdaaGreatDoor
def shN (V:Nat) (n:Int):Nat:=if n < 0 then V/2^(-n).toNat else V*2^n.toNat
theorem zb_shift {V h B:Nat} {E:Int} (hh:(nb V:Int)+E+1≤(h:Int)) (hB:3≤B):Zb ((V:Rat)*tw (E-(h:Int))) (shN V (E-(h:Int)+(B:Int))) B:=by
 have ht:=tw_pos (E-(h:Int))
 have hV:=natq_nonneg V
 have hz:(V:Rat)*tw (E-(h:Int))*((2^B:Nat):Rat)=(V:Rat)*tw (E-(h:Int)+(B:Int)):=by
  rw [tw_add,tw_nat,Rat.mul_assoc]
 refine ⟨Rat.mul_nonneg hV (Rat.le_of_lt ht),?_,?_,?_,hB⟩
 · have h1:=natq_le (Nat.le_of_lt (nb_lt V))
   have h2:(V:Rat)*tw (E-(h:Int))≤((2^nb V:Nat):Rat)*tw (E-(h:Int)):=Rat.mul_le_mul_of_nonneg_right h1 (Rat.le_of_lt ht)
   rw [tw_natmul] at h2
   have h3:=tw_mono (show (nb V:Int)+(E-(h:Int))≤-1 by omega)
   have h4:2*tw (-1)=1:=by
    have e:=tw_inv 1
    have e1:((2^1:Nat):Rat)=2:=rfl
    have e2:tw (-((1:Nat):Int))=tw (-1):=rfl
    rw [e1,e2] at e
    grind
   grind
 all_goals
  rw [hz]
  unfold shN
  split
  case isTrue hn =>
   obtain ⟨k,hk⟩:∃ k:Nat,E-(h:Int)+(B:Int)=-(k:Int):=⟨(-(E-(h:Int)+(B:Int))).toNat,by omega⟩
   rw [hk,show (- -(k:Int)).toNat=k by omega]
   have hi:=tw_inv k
   have htk:=tw_pos (-(k:Int))
   have c1:=natq_le (Nat.div_mul_le_self V (2^k))
   have e1:((V/2^k*2^k:Nat):Rat)=((V/2^k:Nat):Rat)*((2^k:Nat):Rat):=Rat.natCast_mul _ _
   rw [e1] at c1
   have c2:=natq_le (Nat.le_of_lt (Nat.lt_mul_of_div_lt (Nat.lt_succ_self (V/2^k)) (Nat.two_pow_pos k)))
   have e2:(((V/2^k).succ*2^k:Nat):Rat)=(((V/2^k).succ:Nat):Rat)*((2^k:Nat):Rat):=Rat.natCast_mul _ _
   have e3:(((V/2^k).succ:Nat):Rat)=((V/2^k:Nat):Rat)+1:=Rat.natCast_add _ 1
   rw [e2,e3] at c2
   have k1:=Rat.mul_le_mul_of_nonneg_right c1 (Rat.le_of_lt htk)
   have k2:=Rat.mul_le_mul_of_nonneg_right c2 (Rat.le_of_lt htk)
   generalize ((V/2^k:Nat):Rat)=q at *
   generalize ((2^k:Nat):Rat)=p at *
   generalize tw (-(k:Int))=t at *
   have k3:q*p*t=q:=by
    have:q*p*t=q*(t*p):=by grind
    rw [this,hi,Rat.mul_one]
   have k4:(q+1)*p*t=q+1:=by
    have:(q+1)*p*t=(q+1)*(t*p):=by grind
    rw [this,hi,Rat.mul_one]
   grind
  case isFalse hn =>
   obtain ⟨k,hk⟩:∃ k:Nat,E-(h:Int)+(B:Int)=(k:Int):=⟨(E-(h:Int)+(B:Int)).toNat,by omega⟩
   rw [hk,Int.toNat_natCast,tw_nat]
   have e1:((V*2^k:Nat):Rat)=(V:Rat)*((2^k:Nat):Rat):=Rat.natCast_mul _ _
   rw [e1]
   first | exact Rat.le_refl | grind
theorem back_up (V h:Nat) (E:Int):((2^h:Nat):Rat)*((V:Rat)*tw (E-(h:Int)))=(V:Rat)*tw E:=by
 have:((2^h:Nat):Rat)*((V:Rat)*tw (E-(h:Int)))=(V:Rat)*(((2^h:Nat):Rat)*tw (E-(h:Int))):=by grind
 rw [this,tw_natmul]
 congr 2
 omega
theorem ex_great {z:Rat} (h0:0≤z) (h2:2*z≤1) (k n:Nat):exQ (((2^k:Nat):Rat)*z) n≤tw ((2^k:Nat):Int):=by
 induction k with
 | zero =>
  have h1:=ex_tail h0 h2 0 n
  have e0:exQ z 0=1:=rfl
  have e1:tmQ z 0=1:=rfl
  have e2:((2^0:Nat):Rat)=1:=rfl
  have e3:tw ((2^0:Nat):Int)=2:=by rw [show ((2^0:Nat):Int)=((1:Nat):Int) from rfl,tw_nat];rfl
  rw [e2,e3,Rat.one_mul]
  rw [e0,e1] at h1
  grind
 | succ k ih =>
  have hy:0≤((2^k:Nat):Rat)*z:=Rat.mul_nonneg (natq_nonneg _) h0
  have h1:=ex_mul_ge hy hy n
  have e:((2^k:Nat):Rat)*z+((2^k:Nat):Rat)*z=((2^(k+1):Nat):Rat)*z:=by
   have:((2^(k+1):Nat):Rat)=2*((2^k:Nat):Rat):=by rw [Nat.pow_succ,Nat.mul_comm];exact Rat.natCast_mul 2 _
   rw [this];grind
  rw [e] at h1
  have h3:0≤exQ (((2^k:Nat):Rat)*z) n:=by have:=exQ_one hy n;grind
  have h4:=sq_le h3 ih
  have e2:tw ((2^k:Nat):Int)*tw ((2^k:Nat):Int)=tw ((2^(k+1):Nat):Int):=by
   rw [← tw_add];congr 1;rw [Nat.pow_succ];omega
  rw [e2] at h4
  exact Rat.le_trans h1 h4
end Go.Proofs.YtmbmohibpkepdaaGreatDoor
