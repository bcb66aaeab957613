/-
 What is cut down and up encloses a number; so do quotients times the divisor, and roots squared: in plain numbers.
 For the walk of DyadEnclose: order, products over numbers, and blocks that are written once more.
-/
import Derived.Test.YtmbmohibpkepdaaGreatDoorPlEGDy11
namespace Go.Proofs.YtmbmohibpkepdaaGreatDoor
open Go.RowKit
def mag (V:Nat) (e g:Int):Nat:=V*2^(e-g).toNat
def valI (neg:Bool) (V:Nat) (e g:Int):Int:=if neg then-(mag V e g:Int) else (mag V e g:Int)
theorem mag_on {Va:Nat} {ea eb g:Int} (ha:g≤ea) (hb:g≤eb):mag Va ea g=onE Va ea eb*2^(min ea eb-g).toNat:=by
 unfold mag onE
 rw [Nat.mul_assoc,← Nat.pow_add]
 congr 2
 omega
theorem cmpN_le {a b:Nat} (h:a≤b):cmpN a b≤0:=by
 unfold cmpN
 split
 · omega
 · split <;> omega
theorem cmpN_ge {a b:Nat} (h:b≤a):0≤cmpN a b:=by
 unfold cmpN
 split
 · omega
 · split <;> omega
theorem onE_le {Va Vb:Nat} {ea eb g:Int} (ha:Va=0∨g≤ea) (hb:Vb=0∨g≤eb) (h:mag Va ea g≤mag Vb eb g):onE Va ea eb≤onE Vb eb ea:=by
 rcases Nat.eq_zero_or_pos Va with h0 | h0
 · subst h0;unfold onE;rw [Nat.zero_mul];exact Nat.zero_le _
 · have ha':g≤ea:=by
    rcases ha with h | h
    · omega
    · exact h
   have hp:0 < mag Va ea g:=Nat.mul_pos h0 (Nat.two_pow_pos _)
   rcases Nat.eq_zero_or_pos Vb with h1 | h1
   · subst h1;unfold mag at h hp;rw [Nat.zero_mul] at h;omega
   · have hb':g≤eb:=by
      rcases hb with h | h
      · omega
      · exact h
     rw [mag_on ha' hb',mag_on hb' ha',show min eb ea=min ea eb by omega] at h
     exact Nat.le_of_mul_le_mul_right h (Nat.two_pow_pos _)
theorem ord_le {na nb':Bool} {Va Vb:Nat} {ea eb g:Int} (za:Va=0→na=false) (zb:Vb=0→nb'=false) (ha:Va=0∨g≤ea) (hb:Vb=0∨g≤eb) (h:valI na Va ea g≤valI nb' Vb eb g):ordD na nb' Va Vb ea eb≤0:=by
 unfold valI at h
 unfold ordD sizeC
 cases na <;> cases nb'
 · simp only [if_true,if_false,Bool.false_eq_true] at h ⊢
   exact cmpN_le (onE_le ha hb (by omega))
 · simp only [if_true,if_false,Bool.false_eq_true] at h ⊢
   have h1:0 < Vb:=by
    rcases Nat.eq_zero_or_pos Vb with h1 | h1
    · cases zb h1
    · exact h1
   have h2:0 < mag Vb eb g:=Nat.mul_pos h1 (Nat.two_pow_pos _)
   omega
 · simp
 · simp only [if_true] at h ⊢
   have:=cmpN_ge (onE_le hb ha (by omega:mag Vb eb g≤mag Va ea g))
   omega
structure Good (r:DR) (neg:Bool) (V:Nat) (e:Int):Prop where
 ok:r.ok=true
 plain:plainV r.neg r.m r.e=true
 le:r.m≤V
 sg:r.m=0→r.neg=false
 z:V=0→r.m=0∧r.neg=false
 nz:0 < V→r.neg=neg∧∃ z:Nat,V=r.m*2^z∧r.e=e+z
 e1:V=0∨e≤r.e
 e2:r.m=0∨r.e≤e+(nb V:Int)
theorem mkD_good (neg:Bool) {V:Nat} {e:Int} (h1:nb V≤16384) (h2:-262144≤e) (h3:e+(nb V:Int)≤262144):Good (mkD neg V e) neg V e:=by
 unfold mkD
 rcases Nat.eq_zero_or_pos V with h | h
 · subst h
   rw [if_pos rfl]
   exact ⟨rfl,rfl,Nat.le_refl _,fun _=>rfl,fun _=>⟨rfl,rfl⟩,fun h=>absurd h (by omega),.inl rfl,.inl rfl⟩
 · obtain ⟨g1,g2⟩:=od_spec h
   have hv:v2 V < nb V:=by
    have e1:1*2^v2 V≤od V*2^v2 V:=Nat.mul_le_mul_right _ (od_pos h)
    have e2:=nb_lt V
    exact (Nat.pow_lt_pow_iff_right (by omega:1 < 2)).1 (by omega)
   have hb:=nb_mono (od_le V)
   have hf:fitE (e+(v2 V:Int)):=⟨by omega,by omega⟩
   have hc:nb (od V)≤MB∧fitE (e+(v2 V:Int)):=⟨by rw [MB_eq];omega,hf⟩
   have hp:=od_pos h
   rw [if_neg (by omega),if_pos hc]
   refine ⟨rfl,?_,od_le V,fun h0=>?_,fun h0=>absurd h0 (by omega),fun _=>⟨rfl,v2 V,g1,rfl⟩,.inr (by simp only;omega),.inr (by simp only;omega)⟩
   · unfold plainV
     rw [if_neg (by simp only;omega)]
     simp [g2,hc.1,hc.2]
   · simp only at h0;omega
theorem Good.val {r:DR} {neg:Bool} {V:Nat} {e g:Int} (h:Good r neg V e) (hg:g≤e):mag r.m r.e g=mag V e g∧valI r.neg r.m r.e g=valI neg V e g:=by
 have hm:mag r.m r.e g=mag V e g:=by
  rcases Nat.eq_zero_or_pos V with h0 | h0
  · obtain ⟨h1,_⟩:=h.z h0
    unfold mag;rw [h1,h0,Nat.zero_mul,Nat.zero_mul]
  · obtain ⟨_,z,h1,h2⟩:=h.nz h0
    unfold mag
    rw [h2]
    conv=>rhs;rw [h1]
    rw [Nat.mul_assoc,← Nat.pow_add]
    congr 2
    omega
 refine ⟨hm,?_⟩
 unfold valI
 rw [hm]
 rcases Nat.eq_zero_or_pos V with h0 | h0
 · subst h0;unfold mag;rw [Nat.zero_mul];simp
 · rw [(h.nz h0).1]
def kept (neg:Bool) (Q:Nat) (more:Bool) (P:Nat) (up:Bool):Nat:=Q/2^(nb Q-P)+(if (more || decide (Q/2^(nb Q-P)*2^(nb Q-P)≠Q)) && (up != neg) then 1 else 0)
theorem cut_kept (neg:Bool) (Q:Nat) (e:Int) (more:Bool) (P:Nat) (up:Bool):cutD neg Q e more P up=mkD neg (kept neg Q more P up) (e+((nb Q-P:Nat):Int)):=rfl
theorem kept_low {neg:Bool} {Q:Nat} {more:Bool} {P:Nat} {up:Bool} (h:up=neg):kept neg Q more P up*2^(nb Q-P)≤Q:=by
 unfold kept
 rw [show (up != neg)=false by simp [h],Bool.and_false]
 simp only [Bool.false_eq_true,if_false,Nat.add_zero]
 exact Nat.div_mul_le_self _ _
theorem kept_high {neg:Bool} {Q:Nat} {more:Bool} {P:Nat} {up:Bool} (h:up≠neg):Q+(if more then 1 else 0)≤kept neg Q more P up*2^(nb Q-P):=by
 have hu:(up != neg)=true:=by simpa using h
 have h1:Q < (Q/2^(nb Q-P)+1)*2^(nb Q-P):=Nat.lt_mul_of_div_lt (Nat.lt_succ_self _) (Nat.two_pow_pos _)
 unfold kept
 rw [hu,Bool.and_true]
 cases more
 · simp only [Bool.false_or,Bool.false_eq_true,if_false,Nat.add_zero]
   by_cases h2:Q/2^(nb Q-P)*2^(nb Q-P)=Q
   · rw [show decide (Q/2^(nb Q-P)*2^(nb Q-P)≠Q)=false by simp [h2]]
     simp only [Bool.false_eq_true,if_false,Nat.add_zero]
     omega
   · rw [show decide (Q/2^(nb Q-P)*2^(nb Q-P)≠Q)=true by simp [h2]]
     simp only [if_true]
     omega
 · simp only [Bool.true_or,if_true]
   omega
theorem nb_kept (neg:Bool) (Q:Nat) (more:Bool) (P:Nat) (up:Bool):nb (kept neg Q more P up)+(nb Q-P)≤nb Q+1+(nb Q-P):=by
 have h1:kept neg Q more P up≤Q+1:=by
  unfold kept
  have:=Nat.div_le_self Q (2^(nb Q-P))
  split <;> omega
 have h2:=nb_mono h1
 have h3:=nb_succ_le Q
 omega
theorem nb_mul (A B:Nat):nb (A*B)≤nb A+nb B:=by
 refine (nb_le_iff _ _).2 ?_
 rw [Nat.pow_add]
 exact Nat.mul_lt_mul'' (nb_lt A) (nb_lt B)
end Go.Proofs.YtmbmohibpkepdaaGreatDoor
namespace Go.Proofs.YtmbmohibpkepdaaGreatDoor
open Go.RowKit
theorem K3.only {w w':World} {g g':Nat} {a b c:Value} (h:K3 w g' a b c) (o:Only w w' g) (hne:g'≠g):K3 w' g' a b c:=⟨(o.block g' h.2 (by simpa using hne)).trans h.1,Nat.lt_of_lt_of_le h.2 o.size⟩
theorem K3.put {w:World} {g:Nat} {a b c:Value} (h:K3 w g a b c) (x y z:Value):K3 (put3 w g x y z) g x y z:=by
 obtain ⟨h1,h2⟩:=h
 unfold Blk3 at h1
 refine ⟨?_,by simpa [put3,World.setCell] using h2⟩
 unfold Blk3
 simp [put3,World.setCell,Array.getElem?_modify,h1]
theorem K3.frozen {w:World} {g:Nat} {a b c:Value} (h:K3 w g a b c):w.frozen? ⟨g,0,none⟩=false∧w.frozen? ⟨g,1,none⟩=false∧w.frozen? ⟨g,2,none⟩=false:=h.1.frozen
theorem num_only {w w':World} {v:Value} {V g:Nat} {na:Bool} {A:Option Addr} {n c:Nat} {e:Int} (h:Num w v V) (k:K3 w g (.bool na) (.slice A n c) (.int .i64 e)) (o:Only w w' g):Num w' v V:=by
 obtain ⟨A,n,cp,f,hv,hs,hc,he⟩:=h
 exact ⟨A,n,cp,f,hv,hs.only o (hs.apart k.1 (notU_bool _) (notU_slice _ _ _) (notU_int _)),hc,he⟩
theorem below_only {w0 w w':World} {g:Nat} (h:Below w0.heap.size w0 w) (o:Only w w' g) (hg:w0.heap.size≤g):Below w0.heap.size w0 w':=Only.below h o h.size hg
end Go.Proofs.YtmbmohibpkepdaaGreatDoor
