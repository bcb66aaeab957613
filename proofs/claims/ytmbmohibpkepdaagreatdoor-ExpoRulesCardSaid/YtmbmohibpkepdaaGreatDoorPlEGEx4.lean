/-
 What is cut to some bits is near what it was cut of; so are sums, products and quotients of spans: by rational numbers.
 Sums, other signs, scales, hulls of spans, and what is cut outward, by rational numbers: what comes of them is near what it should be.
 Products and quotients of spans, by rational numbers: what comes of them is near what it should be.
 Quotients by spans above 0; the reference's products and quotients: by rational numbers.
-/
import Derived.Test.YtmbmohibpkepdaaGreatDoorPlEGEx2
import Derived.Test.YtmbmohibpkepdaaGreatDoorPlEGSp11
import Derived.Test.YtmbmohibpkepdaaGreatDoorPlEGSe9
namespace Go.Proofs.YtmbmohibpkepdaaGreatDoor
open Go.RowKit
structure Cd (u x y:Rat):Prop where
 le:y≤x
 pos:0≤x→x*(1-u)≤y
 neg:x≤0→x*(1+u)≤y
structure Cu (u x y:Rat):Prop where
 le:x≤y
 pos:0≤x→y≤x*(1+u)
 neg:x≤0→y≤x*(1-u)
theorem Cd.flip {u x y:Rat} (h:Cd u x y):Cu u (-x) (-y):=⟨by have:=h.le;grind,fun h0=>by have:=h.neg (by grind);grind,fun h0=>by have:=h.pos (by grind);grind⟩
theorem Cu.flip {u x y:Rat} (h:Cu u x y):Cd u (-x) (-y):=⟨by have:=h.le;grind,fun h0=>by have:=h.neg (by grind);grind,fun h0=>by have:=h.pos (by grind);grind⟩
theorem Cd.refl {u x:Rat} (h0:0≤u):Cd u x x:=⟨Rat.le_refl,fun h=>by have:=Rat.mul_nonneg h0 h;grind,fun h=>by have:=Rat.mul_nonneg h0 (show 0≤-x by grind);grind⟩
theorem Cu.refl {u x:Rat} (h0:0≤u):Cu u x x:=⟨Rat.le_refl,fun h=>by have:=Rat.mul_nonneg h0 h;grind,fun h=>by have:=Rat.mul_nonneg h0 (show 0≤-x by grind);grind⟩
theorem cd_pos {u x y:Rat} (hx:0≤x) (h:y≤x) (k:x*(1-u)≤y):Cd u x y:=⟨h,fun _=>k,fun h0=>by
 have e:x=0:=by grind
 subst e
 rw [Rat.zero_mul] at k ⊢
 exact k⟩
theorem cu_pos {u x y:Rat} (hx:0≤x) (h:x≤y) (k:y≤x*(1+u)):Cu u x y:=⟨h,fun _=>k,fun h0=>by
 have e:x=0:=by grind
 subst e
 rw [Rat.zero_mul] at k ⊢
 exact k⟩
theorem kept_gap {neg:Bool} {Q:Nat} {more:Bool} {P:Nat} {up:Bool} (hP:1≤P) (hQ:0 < Q) (hm:more=true→P≤nb Q) :
 (up=neg→kept neg Q more P up*2^(nb Q-P)≤Q∧(Q+(if more then 1 else 0)-kept neg Q more P up*2^(nb Q-P))*2^(P-1)≤Q) ∧
 (up≠neg→Q+(if more then 1 else 0)≤kept neg Q more P up*2^(nb Q-P)∧(kept neg Q more P up*2^(nb Q-P)-Q)*2^(P-1)≤Q):=by
 have hlow:=fun h=>kept_low (neg:=neg) (Q:=Q) (more:=more) (P:=P) (up:=up) h
 have hhigh:=fun h=>kept_high (neg:=neg) (Q:=Q) (more:=more) (P:=P) (up:=up) h
 have hge:=nb_ge hQ
 by_cases hb:P≤nb Q
 · have hD:2^(nb Q-P)*2^(P-1)≤Q:=by
    rw [← Nat.pow_add,show nb Q-P+(P-1)=nb Q-1 by omega]
    exact hge
   have h1:Q < (Q/2^(nb Q-P)+1)*2^(nb Q-P):=Nat.lt_mul_of_div_lt (Nat.lt_succ_self _) (Nat.two_pow_pos _)
   have h2:Q/2^(nb Q-P)*2^(nb Q-P)≤Q:=Nat.div_mul_le_self _ _
   rw [Nat.add_mul,Nat.one_mul] at h1
   refine ⟨fun hu=>⟨hlow hu,Nat.le_trans (Nat.mul_le_mul_right _ ?_) hD⟩,fun hu=>⟨hhigh hu,Nat.le_trans (Nat.mul_le_mul_right _ ?_) hD⟩⟩
   · have:kept neg Q more P up=Q/2^(nb Q-P):=by
      unfold kept
      rw [show (up != neg)=false by simp [hu],Bool.and_false]
      simp
     rw [this]
     split <;> omega
   · have:kept neg Q more P up≤Q/2^(nb Q-P)+1:=by unfold kept;split <;> omega
     have:=Nat.mul_le_mul_right (2^(nb Q-P)) this
     rw [Nat.add_mul,Nat.one_mul] at this
     omega
 · have hmo:more=false:=by
    cases hx:more
    · rfl
    · exact absurd (hm hx) hb
   have hz:nb Q-P=0:=by omega
   have:kept neg Q more P up=Q:=by
    unfold kept
    rw [hz,Nat.pow_zero,Nat.div_one,hmo,Nat.mul_one]
    simp
   rw [this,hz,hmo]
   simp
structure Tq (B:Int) (r:DR):Prop where
 ok:r.ok=true
 pl:plainV r.neg r.m r.e=true
 b:nb r.m≤9000
 e1:-B≤r.e
 e2:r.e+(nb r.m:Int)≤B
theorem Tq.more {B B':Int} {r:DR} (h:Tq B r) (hb:B≤B'):Tq B' r:=⟨h.ok,h.pl,h.b,by have:=h.e1;omega,by have:=h.e2;omega⟩
theorem Tq.p {B:Int} {r:DR} (h:Tq B r):Pl r:=⟨h.ok,h.pl⟩
theorem Tq.pr {B:Int} {r:DR} (h:Tq B r):PlainR r:=plainR_of h.pl
theorem Tq.up {B g:Int} {r:DR} (h:Tq B r) (hg:g≤-B):Up r g:=⟨h.ok,fun h0=>(h.pr.zero h0).2,by have:=h.e1;omega⟩
theorem right_tq {B:Int} {lo hi:DR} (h1:Tq B lo) (h2:Tq B hi) (h:rv lo≤rv hi):rightI lo hi=true:=by
 unfold rightI rightB
 rw [h1.ok,h2.ok]
 have:=ord_le (g:=-B) (fun h0=>(h1.pr.zero h0).2) (fun h0=>(h2.pr.zero h0).2) (.inr h1.e1) (.inr h2.e1) ((rv_le (.inr h1.e1) (.inr h2.e1)).1 h)
 simp [this]
theorem pBad_q {p:Int} (h1:1≤p) (h2:p≤8192):pBad p=false:=by unfold pBad;simp;omega
theorem fitB_q {p:Int} (h1:1≤p) (h2:p≤8192):bitsFitB p=true:=by unfold bitsFitB;simp;omega
def uP (P:Nat):Rat:=tp (1-(P:Int))
theorem uP_pos (P:Nat):0 < uP P:=tp_pos _
theorem uP_mul {P:Nat} (hP:1≤P):uP P*((2^(P-1):Nat):Rat)=1:=by
 unfold uP
 rw [← tp_nat,← tp_add,show 1-(P:Int)+((P-1:Nat):Int)=0 by omega,tp_zero]
theorem uP_le {P Q:Nat} (h:P≤Q):uP Q≤uP P:=tp_mono (by omega)
theorem gap_share {P X Y:Nat} (hP:1≤P) (h:(X-Y)*2^(P-1)≤X) (hYX:Y≤X):(X:Rat)*(1-uP P)≤(Y:Rat):=by
 have h1:=nat_le h
 have e1:(((X-Y)*2^(P-1):Nat):Rat)=((X:Rat)-(Y:Rat))*((2^(P-1):Nat):Rat):=by rw [Rat.natCast_mul,rat_sub hYX]
 rw [e1] at h1
 have h2:=Rat.mul_le_mul_of_nonneg_left h1 (Rat.le_of_lt (uP_pos P))
 have h3:=uP_mul hP
 generalize ((2^(P-1):Nat):Rat)=t at *
 generalize uP P=u at *
 have:u*(((X:Rat)-(Y:Rat))*t)=((X:Rat)-(Y:Rat))*(u*t):=by grind
 rw [this,h3] at h2
 grind
theorem gap_share2 {P X Y Z:Nat} (hP:1≤P) (h:(Y-X)*2^(P-1)≤Z) (hYX:X≤Y):(Y:Rat)≤(X:Rat)+(Z:Rat)*uP P:=by
 have h1:=nat_le h
 have e1:(((Y-X)*2^(P-1):Nat):Rat)=((Y:Rat)-(X:Rat))*((2^(P-1):Nat):Rat):=by rw [Rat.natCast_mul,rat_sub hYX]
 rw [e1] at h1
 have h2:=Rat.mul_le_mul_of_nonneg_left h1 (Rat.le_of_lt (uP_pos P))
 have h3:=uP_mul hP
 generalize ((2^(P-1):Nat):Rat)=t at *
 generalize uP P=u at *
 have:u*(((Y:Rat)-(X:Rat))*t)=((Y:Rat)-(X:Rat))*(u*t):=by grind
 rw [this,h3] at h2
 grind
theorem qv_true (V:Nat) (e:Int):qv true V e=-((V:Rat)*tp e):=rfl
theorem qv_pos (V:Nat) (e:Int):0≤(V:Rat)*tp e:=Rat.mul_nonneg Rat.natCast_nonneg (Rat.le_of_lt (tp_pos e))
theorem cut_q {neg:Bool} {V:Nat} {e B:Int} {P:Nat} (up:Bool) (hP1:1≤P) (hP:P≤8192) (h1:-B≤e) (h2:e+(nb V:Int)≤B) (hB:B≤262000) (hB0:0≤B) :
 Tq (B+1) (cutD neg V e false P up)∧nb (cutD neg V e false P up).m≤P+1∧(up=false→Cd (uP P) (qv neg V e) (rv (cutD neg V e false P up)))∧(up=true→Cu (uP P) (qv neg V e) (rv (cutD neg V e false P up))):=by
 have hk:=nb_kept neg V false P up
 have hk2:=nb_kept2 neg V false P up
 have hgap:=fun h0:0 < V=>kept_gap (neg:=neg) (Q:=V) (more:=false) (P:=P) (up:=up) hP1 h0 (fun h=>by cases h)
 rw [cut_kept]
 have hkz:nb V≤P→kept neg V false P up=V:=fun h=>by
  unfold kept
  rw [show nb V-P=0 by omega,Nat.pow_zero,Nat.div_one,Nat.mul_one]
  simp
 have htop:e+((nb V-P:Nat):Int)+(nb (kept neg V false P up):Int)≤B+1:=by
  rcases Nat.lt_or_ge P (nb V) with h | h
  · omega
  · rw [hkz h];omega
 have G:=mkD_good neg (V:=kept neg V false P up) (e:=e+((nb V-P:Nat):Int)) (by omega) (by omega) (by omega)
 have hv:=G.rv_eq
 have hm:=nb_mono G.le
 have hpl:=plainR_of G.plain
 have hzz:0 < kept neg V false P up→(mkD neg (kept neg V false P up) (e+((nb V-P:Nat):Int))).e+(nb (mkD neg (kept neg V false P up) (e+((nb V-P:Nat):Int))).m:Int)=e+((nb V-P:Nat):Int)+(nb (kept neg V false P up):Int):=fun h=>by
  obtain ⟨_,z,g1,g2⟩:=G.nz h
  have h0:0 < (mkD neg (kept neg V false P up) (e+((nb V-P:Nat):Int))).m:=by
   rcases Nat.eq_zero_or_pos (mkD neg (kept neg V false P up) (e+((nb V-P:Nat):Int))).m with h0 | h0
   · rw [h0,Nat.zero_mul] at g1;omega
   · exact h0
  have:=nb_mul_pow (V:=(mkD neg (kept neg V false P up) (e+((nb V-P:Nat):Int))).m) (z:=z) h0
  rw [← g1] at this
  omega
 have hze:kept neg V false P up=0→(mkD neg (kept neg V false P up) (e+((nb V-P:Nat):Int)))=DR.zero:=fun h=>by rw [h];rfl
 have hlt:=hv
 rw [qv_mul] at hv
 generalize mkD neg (kept neg V false P up) (e+((nb V-P:Nat):Int))=r at *
 refine ⟨⟨G.ok,G.plain,by omega,?_,?_⟩,by omega,?_⟩
 · rcases Nat.eq_zero_or_pos (kept neg V false P up) with h | h
   · rw [hze h];show -(B+1)≤(0:Int);omega
   · rcases G.e1 with h' | h' <;> omega
 · rcases Nat.eq_zero_or_pos (kept neg V false P up) with h | h
   · rw [hze h];show (0:Int)+(nb 0:Int)≤_;rw [nb_zero];omega
   · have:=hzz h;omega
 · rcases Nat.eq_zero_or_pos V with h0 | h0
   · subst h0
     have hkz0:=hkz (by rw [nb_zero];omega)
     rw [hv,hkz0,Nat.zero_mul,qv_zero]
     exact ⟨fun _=>Cd.refl (Rat.le_of_lt (uP_pos P)),fun _=>Cu.refl (Rat.le_of_lt (uP_pos P))⟩
   · obtain ⟨g1,g2⟩:=hgap h0
     simp only [Bool.false_eq_true,if_false,Nat.add_zero] at g1 g2
     have ht:=Rat.le_of_lt (tp_pos e)
     have hu:=uP_pos P
     generalize hK:kept neg V false P up*2^(nb V-P)=K at *
     have low:K≤V→(V-K)*2^(P-1)≤V→(V:Rat)*tp e*(1-uP P)≤(K:Rat)*tp e∧(K:Rat)*tp e≤(V:Rat)*tp e:=fun a b=>by
      have s:=Rat.mul_le_mul_of_nonneg_right (gap_share hP1 b a) ht
      have s2:=Rat.mul_le_mul_of_nonneg_right (nat_le a) ht
      constructor <;> grind
     have high:V≤K→(K-V)*2^(P-1)≤V→(K:Rat)*tp e≤(V:Rat)*tp e*(1+uP P)∧(V:Rat)*tp e≤(K:Rat)*tp e:=fun a b=>by
      have s:=Rat.mul_le_mul_of_nonneg_right (gap_share2 hP1 b a) ht
      have s2:=Rat.mul_le_mul_of_nonneg_right (nat_le a) ht
      constructor <;> grind
     have hv0:=qv_pos V e
     have hk0:=qv_pos K e
     rw [hv]
     have hun:=Rat.mul_nonneg hv0 (Rat.le_of_lt hu)
     cases neg
     · rw [qv_false,qv_false]
       refine ⟨fun hu'=>?_,fun hu'=>?_⟩
       · obtain ⟨a,b⟩:=g1 hu'
         obtain ⟨c,d⟩:=low a b
         exact cd_pos hv0 d c
       · obtain ⟨a,b⟩:=g2 (by rw [hu'];decide)
         obtain ⟨c,d⟩:=high a b
         exact cu_pos hv0 d c
     · rw [qv_true,qv_true]
       refine ⟨fun hu'=>?_,fun hu'=>?_⟩
       · obtain ⟨a,b⟩:=g2 (by rw [hu'];decide)
         obtain ⟨c,d⟩:=high a b
         exact (cu_pos hv0 d c).flip
       · obtain ⟨a,b⟩:=g1 hu'
         obtain ⟨c,d⟩:=low a b
         exact (cd_pos hv0 d c).flip
end Go.Proofs.YtmbmohibpkepdaaGreatDoor
namespace Go.Proofs.YtmbmohibpkepdaaGreatDoor
open Go.RowKit
structure Sq (B:Int) (r:SRes):Prop where
 bad:r.bad=false
 l:Tq B r.lo
 h:Tq B r.hi
 le:rv r.lo≤rv r.hi
theorem Sq.more {B B':Int} {r:SRes} (h:Sq B r) (hb:B≤B'):Sq B' r:=⟨h.bad,h.l.more hb,h.h.more hb,h.le⟩
theorem Sq.good {B:Int} {r:SRes} (h:Sq B r):SGood r:=⟨h.l.ok,h.l.pl,h.h.ok,h.h.pl⟩
theorem cd_cu {u x y a b:Rat} (h:Cd u x a) (k:Cu u y b) (hxy:x≤y):a≤b:=by
 have:=h.le
 have:=k.le
 grind
theorem sumN_tq {B:Int} {r s:DR} (h1:Tq B r) (h2:Tq B s):-B≤(sumN r s).e∧(sumN r s).e+(nb (sumN r s).m:Int)≤B+1:=by
 have a2:=h1.e1
 have a3:=h1.e2
 have b2:=h2.e1
 have b3:=h2.e2
 unfold sumN
 by_cases h0:r.m=0
 · rw [if_pos h0];omega
 · rw [if_neg h0]
   by_cases h1:s.m=0
   · rw [if_pos h1];omega
   · rw [if_neg h1]
     have n1:nb (onE r.m r.e s.e)=nb r.m+(r.e-min r.e s.e).toNat:=by unfold onE;rw [nb_mul_pow (by omega)]
     have n2:nb (onE s.m s.e r.e)=nb s.m+(s.e-min s.e r.e).toNat:=by unfold onE;rw [nb_mul_pow (by omega)]
     by_cases hn:r.neg=s.neg
     · rw [if_pos hn]
       have:=nb_add (X:=onE r.m r.e s.e) (Y:=onE s.m s.e r.e) (K:=max (nb (onE r.m r.e s.e)) (nb (onE s.m s.e r.e))) (by omega) (by omega)
       simp only
       omega
     · rw [if_neg hn]
       split
       · have:=nb_mono (Nat.sub_le (onE r.m r.e s.e) (onE s.m s.e r.e))
         simp only
         omega
       · have:=nb_mono (Nat.sub_le (onE s.m s.e r.e) (onE r.m r.e s.e))
         simp only
         omega
theorem negI_tq {B:Int} {r:DR} (h:Tq B r) (hB0:0≤B):Tq B (negI r):=by
 have hp:=pl_neg h.p
 have h1:=h.b
 have h2:=h.e1
 have h3:=h.e2
 refine ⟨hp.ok,hp.pl,?_,?_,?_⟩ <;>
 · unfold negI
   rw [h.ok,if_pos rfl]
   by_cases h0:r.m=0
   · rw [if_pos h0];unfold DR.zero;simp only [nb_zero];omega
   · rw [if_neg h0];simp only;omega
theorem mk_q {neg:Bool} {V:Nat} {e B:Int} (h1:-B≤e) (h2:e+(nb V:Int)≤B) (h3:nb V≤9000) (hB:B≤262144) (hB0:0≤B):Tq B (mkD neg V e)∧rv (mkD neg V e)=qv neg V e∧nb (mkD neg V e).m≤nb V:=by
 have G:=mkD_good neg (V:=V) (e:=e) (by omega) (by omega) (by omega)
 have hm:=nb_mono G.le
 have hv:=G.rv_eq
 refine ⟨⟨G.ok,G.plain,by omega,?_,?_⟩,hv,hm⟩
 · rcases Nat.eq_zero_or_pos V with h | h
   · subst h;show -B≤(0:Int);omega
   · rcases G.e1 with h' | h' <;> omega
 · rcases Nat.eq_zero_or_pos V with h | h
   · subst h;show (0:Int)+(nb 0:Int)≤B;rw [nb_zero];omega
   · obtain ⟨_,z,g1,g2⟩:=G.nz h
     have h0:0 < (mkD neg V e).m:=by
      rcases Nat.eq_zero_or_pos (mkD neg V e).m with h0 | h0
      · rw [h0,Nat.zero_mul] at g1;omega
      · exact h0
     have:=nb_mul_pow (V:=(mkD neg V e).m) (z:=z) h0
     rw [← g1] at this
     omega
theorem qv_scale (neg:Bool) (V:Nat) (e k:Int):qv neg V (e+k)=qv neg V e*tp k:=by
 unfold qv
 rw [tp_add]
 cases neg
 · show (V:Rat)*(tp e*tp k)=(V:Rat)*tp e*tp k
   grind
 · show -((V:Rat)*(tp e*tp k))=-((V:Rat)*tp e)*tp k
   grind
theorem add_q {p B:Int} {r s:SRes} (hp1:1≤p) (hp2:p≤8192) (h:Sq B r) (k:Sq B s) (hB:B≤260000) (hB0:0≤B):Sq (B+2) (addS p false r.lo r.hi s.lo s.hi) ∧
 Cd (uP p.toNat) (rv r.lo+rv s.lo) (rv (addS p false r.lo r.hi s.lo s.hi).lo)∧Cu (uP p.toNat) (rv r.hi+rv s.hi) (rv (addS p false r.lo r.hi s.lo s.hi).hi):=by
 have b1:=sumN_tq h.l k.l
 have b2:=sumN_tq h.h k.h
 have c1:=cut_q (neg:=(sumN r.lo s.lo).neg) (V:=(sumN r.lo s.lo).m) (e:=(sumN r.lo s.lo).e) (B:=B+1) (P:=p.toNat) false (by omega) (by omega) (by omega) (by omega) (by omega) (by omega)
 have c2:=cut_q (neg:=(sumN r.hi s.hi).neg) (V:=(sumN r.hi s.hi).m) (e:=(sumN r.hi s.hi).e) (B:=B+1) (P:=p.toNat) true (by omega) (by omega) (by omega) (by omega) (by omega) (by omega)
 have e1:=sumN_rv r.lo s.lo
 have e2:=sumN_rv r.hi s.hi
 have g1:=c1.2.2.1 rfl
 have g2:=c2.2.2.2 rfl
 change Cd _ (rv (sumN r.lo s.lo)) _ at g1
 change Cu _ (rv (sumN r.hi s.hi)) _ at g2
 have hb:bad2 p false r.lo r.hi s.lo s.hi=false:=by
  unfold bad2
  rw [right_tq h.l h.h h.le,right_tq k.l k.h k.le,pBad_q hp1 hp2]
  rfl
 have hE:addS p false r.lo r.hi s.lo s.hi=⟨false,cutD (sumN r.lo s.lo).neg (sumN r.lo s.lo).m (sumN r.lo s.lo).e false p.toNat false,cutD (sumN r.hi s.hi).neg (sumN r.hi s.hi).m (sumN r.hi s.hi).e false p.toNat true⟩:=by
  unfold addS twoS keepS sumC
  rw [hb,c1.1.ok,c2.1.ok]
  rfl
 rw [hE]
 rw [e1] at g1
 rw [e2] at g2
 have:=h.le
 have:=k.le
 exact ⟨⟨rfl,c1.1.more (by omega),c2.1.more (by omega),cd_cu g1 g2 (by grind)⟩,g1,g2⟩
theorem neg_q {p B:Int} {r:SRes} (hp1:1≤p) (hp2:p≤8192) (h:Sq B r) (hB0:0≤B):negS p false r.lo r.hi=⟨false,negI r.hi,negI r.lo⟩∧Sq B (negS p false r.lo r.hi)∧rv (negI r.hi)=- rv r.hi∧rv (negI r.lo)=- rv r.lo:=by
 have hr:=rightF_of (right_tq h.l h.h h.le)
 have hE:=negS_ok hp1 hp2 hr h.l.p h.h.p
 have e1:=negI_rv h.l.ok
 have e2:=negI_rv h.h.ok
 refine ⟨hE,?_,e2,e1⟩
 rw [hE]
 have:=h.le
 exact ⟨rfl,negI_tq h.h hB0,negI_tq h.l hB0,by show rv (negI r.hi)≤rv (negI r.lo);grind⟩
theorem sub_q {p B:Int} {r s:SRes} (hp1:1≤p) (hp2:p≤8192) (h:Sq B r) (k:Sq B s) (hB:B≤260000) (hB0:0≤B):Sq (B+2) (subS p false r.lo r.hi s.lo s.hi) ∧
 Cd (uP p.toNat) (rv r.lo-rv s.hi) (rv (subS p false r.lo r.hi s.lo s.hi).lo)∧Cu (uP p.toNat) (rv r.hi-rv s.lo) (rv (subS p false r.lo r.hi s.lo s.hi).hi):=by
 obtain ⟨n1,n2,n3,n4⟩:=neg_q hp1 hp2 k hB0
 have:=add_q hp1 hp2 h n2 hB hB0
 unfold subS
 rw [n2.bad,Rat.sub_eq_add_neg,Rat.sub_eq_add_neg,← n3,← n4]
 rw [n1] at this ⊢
 exact this
theorem scale_q {p B:Int} {r:SRes} (hp1:1≤p) (hp2:p≤8192) {k:Int} (h:Sq B r) (hk:-100000≤k∧k≤100000) {B':Int} (h1:B+k≤B') (h2:B-k≤B') (h3:0≤B') (h4:B'≤262144) :
 scaleS p false r.lo r.hi k=⟨false,mkD r.lo.neg r.lo.m (r.lo.e+k),mkD r.hi.neg r.hi.m (r.hi.e+k)⟩∧Sq B' (scaleS p false r.lo r.hi k) ∧
 rv (scaleS p false r.lo r.hi k).lo=rv r.lo*tp k∧rv (scaleS p false r.lo r.hi k).hi=rv r.hi*tp k:=by
 have l1:=h.l.e1
 have l2:=h.l.e2
 have l3:=h.l.b
 have u1:=h.h.e1
 have u2:=h.h.e2
 have u3:=h.h.b
 have c1:=mk_q (neg:=r.lo.neg) (V:=r.lo.m) (e:=r.lo.e+k) (B:=B') (by omega) (by omega) l3 h4 h3
 have c2:=mk_q (neg:=r.hi.neg) (V:=r.hi.m) (e:=r.hi.e+k) (B:=B') (by omega) (by omega) u3 h4 h3
 have hb:(bad1 p false r.lo r.hi || kBad k)=false:=by
  unfold bad1 kBad
  rw [right_tq h.l h.h h.le,pBad_q hp1 hp2]
  simp
  omega
 have hE:scaleS p false r.lo r.hi k=⟨false,mkD r.lo.neg r.lo.m (r.lo.e+k),mkD r.hi.neg r.hi.m (r.hi.e+k)⟩:=by
  unfold scaleS twoS keepS
  rw [hb,c1.1.ok,c2.1.ok]
  rfl
 have e1:rv (scaleS p false r.lo r.hi k).lo=rv r.lo*tp k:=by rw [hE];show rv (mkD _ _ _)=_;rw [c1.2.1,qv_scale];rfl
 have e2:rv (scaleS p false r.lo r.hi k).hi=rv r.hi*tp k:=by rw [hE];show rv (mkD _ _ _)=_;rw [c2.2.1,qv_scale];rfl
 refine ⟨hE,⟨by rw [hE],by rw [hE];exact c1.1,by rw [hE];exact c2.1,?_⟩,e1,e2⟩
 rw [e1,e2]
 exact Rat.mul_le_mul_of_nonneg_right h.le (Rat.le_of_lt (tp_pos k))
theorem out_q {p B:Int} {r:SRes} (hp1:1≤p) (hp2:p≤8192) (h:Sq B r) (hB:B≤260000) (hB0:0≤B):Sq (B+1) (outS p false r.lo r.hi)∧nb (outS p false r.lo r.hi).lo.m≤p.toNat+1∧nb (outS p false r.lo r.hi).hi.m≤p.toNat+1 ∧
 Cd (uP p.toNat) (rv r.lo) (rv (outS p false r.lo r.hi).lo)∧Cu (uP p.toNat) (rv r.hi) (rv (outS p false r.lo r.hi).hi):=by
 have l1:=h.l.e1
 have l2:=h.l.e2
 have u1:=h.h.e1
 have u2:=h.h.e2
 have c1:=cut_q (neg:=r.lo.neg) (V:=r.lo.m) (e:=r.lo.e) (B:=B) (P:=p.toNat) false (by omega) (by omega) l1 l2 (by omega) (by omega)
 have c2:=cut_q (neg:=r.hi.neg) (V:=r.hi.m) (e:=r.hi.e) (B:=B) (P:=p.toNat) true (by omega) (by omega) u1 u2 (by omega) (by omega)
 have hb:bad1 p false r.lo r.hi=false:=by
  unfold bad1
  rw [right_tq h.l h.h h.le,pBad_q hp1 hp2]
  rfl
 obtain ⟨P,rfl⟩:∃ P:Nat,p=(P:Int):=⟨p.toNat,by omega⟩
 simp only [Int.toNat_natCast] at c1 c2 ⊢
 have hE:outS (P:Int) false r.lo r.hi=⟨false,cutD r.lo.neg r.lo.m r.lo.e false P false,cutD r.hi.neg r.hi.m r.hi.e false P true⟩:=by
  unfold outS twoS keepS
  rw [hb,cutI_yes h.l.ok (by omega) (by omega),cutI_yes h.h.ok (by omega) (by omega),c1.1.ok,c2.1.ok]
  rfl
 have g1:=c1.2.2.1 trivial
 have g2:=c2.2.2.2 trivial
 rw [hE]
 exact ⟨⟨rfl,c1.1,c2.1,cd_cu g1 g2 h.le⟩,c1.2.1,c2.2.1,g1,g2⟩
theorem below_q {B:Int} {a b:DR} (h:Tq B a) (k:Tq B b):belowI a b=decide (rv a < rv b):=by
 unfold belowI
 have u1:=h.up (g:=-B) (Int.le_refl _)
 have u2:=k.up (g:=-B) (Int.le_refl _)
 rw [cmp_val u1 u2]
 have e:val a (-B) < val b (-B) ↔ rv a < rv b:=by
  have:=rv_le (r:=b) (s:=a) (.inr k.e1) (.inr h.e1)
  rw [← Rat.not_le,this]
  omega
 simp only [e]
theorem hull_q {p B:Int} {r s:SRes} (hp1:1≤p) (hp2:p≤8192) (h:Sq B r) (k:Sq B s):Sq B (hullS p false r.lo r.hi s.lo s.hi) ∧
 (rv (hullS p false r.lo r.hi s.lo s.hi).lo≤rv r.lo∧rv (hullS p false r.lo r.hi s.lo s.hi).lo≤rv s.lo∧(rv (hullS p false r.lo r.hi s.lo s.hi).lo=rv r.lo∨rv (hullS p false r.lo r.hi s.lo s.hi).lo=rv s.lo)) ∧
 (rv r.hi≤rv (hullS p false r.lo r.hi s.lo s.hi).hi∧rv s.hi≤rv (hullS p false r.lo r.hi s.lo s.hi).hi∧(rv (hullS p false r.lo r.hi s.lo s.hi).hi=rv r.hi∨rv (hullS p false r.lo r.hi s.lo s.hi).hi=rv s.hi)):=by
 have hb:bad2 p false r.lo r.hi s.lo s.hi=false:=by
  unfold bad2
  rw [right_tq h.l h.h h.le,right_tq k.l k.h k.le,pBad_q hp1 hp2]
  rfl
 have hE:hullS p false r.lo r.hi s.lo s.hi=⟨false,pickS (belowI s.lo r.lo) s.lo r.lo,pickS (belowI r.hi s.hi) s.hi r.hi⟩:=by
  unfold hullS
  rw [hb]
  rfl
 rw [hE,below_q k.l h.l,below_q h.h k.h]
 have:=h.le
 have:=k.le
 by_cases c1:rv s.lo < rv r.lo <;> by_cases c2:rv r.hi < rv s.hi
 · rw [decide_eq_true c1,decide_eq_true c2]
   exact ⟨⟨rfl,k.l,k.h,k.le⟩,⟨Rat.le_of_lt c1,Rat.le_refl,.inr rfl⟩,Rat.le_of_lt c2,Rat.le_refl,.inr rfl⟩
 · rw [decide_eq_true c1,decide_eq_false c2]
   have c2:=Rat.not_lt.1 c2
   exact ⟨⟨rfl,k.l,h.h,by show rv s.lo≤rv r.hi;grind⟩,⟨Rat.le_of_lt c1,Rat.le_refl,.inr rfl⟩,Rat.le_refl,c2,.inl rfl⟩
 · rw [decide_eq_false c1,decide_eq_true c2]
   have c1:=Rat.not_lt.1 c1
   exact ⟨⟨rfl,h.l,k.h,by show rv r.lo≤rv s.hi;grind⟩,⟨Rat.le_refl,c1,.inl rfl⟩,Rat.le_of_lt c2,Rat.le_refl,.inr rfl⟩
 · rw [decide_eq_false c1,decide_eq_false c2]
   have c1:=Rat.not_lt.1 c1
   have c2:=Rat.not_lt.1 c2
   exact ⟨⟨rfl,h.l,h.h,h.le⟩,⟨Rat.le_refl,c1,.inl rfl⟩,Rat.le_refl,c2,.inl rfl⟩
theorem pt_q {p B:Int} (hp1:1≤p) (hp2:p≤8192) {d:DR} (h:Tq B d):ptI p false d=⟨false,d,d⟩∧Sq B ⟨false,d,d⟩:=by
 refine ⟨?_,⟨rfl,h,h,Rat.le_refl⟩⟩
 have ho:=h.ok
 unfold ptI ptS bad1
 rw [right_tq h h Rat.le_refl,pBad_q hp1 hp2]
 cases d
 simp only at ho
 subst ho
 rfl
theorem num_q {p:Int} (hp1:1≤p) (hp2:p≤8192) {n:Nat} (hn:nb n≤64):∃ d,numS p false (n:Int)=⟨false,d,d⟩∧Tq 64 d∧rv d=(n:Rat)∧d.neg=false:=by
 have c:=mk_q (neg:=false) (V:=n) (e:=0) (B:=64) (by omega) (by omega) (by omega) (by omega) (by omega)
 refine ⟨mkD false n 0,?_,c.1,?_,?_⟩
 · unfold numS
   rw [show decide ((n:Int) < 0)=false from decide_eq_false (by omega),Int.natAbs_natCast]
   exact (pt_q hp1 hp2 c.1).1
 · rw [c.2.1,qv_false,tp_zero,Rat.mul_one]
 · unfold mkD
   split
   · rfl
   · split <;> rfl
end Go.Proofs.YtmbmohibpkepdaaGreatDoor
namespace Go.Proofs.YtmbmohibpkepdaaGreatDoor
open Go.RowKit
theorem gr_all {Q:DR→Prop} {r s:DR} (h:Q r) (k:Q s):Q (grN r s):=by unfold grN;split <;> assumption
theorem prods_all {Q:DR→Prop} {lo hi lo' hi':DR} (h:∀ r s,(r=lo∨r=hi)→(s=lo'∨s=hi')→Q (prodN r s)∧Q (prodN s r)):Q (prodsN lo hi lo' hi').1∧Q (prodsN lo hi lo' hi').2:=by
 have hp:∀ b,pickS b lo' hi'=lo'∨pickS b lo' hi'=hi':=fun b=>by unfold pickS;split <;> simp
 have hp2:∀ b,pickS b hi' lo'=lo'∨pickS b hi' lo'=hi':=fun b=>by unfold pickS;split <;> simp
 have hq:∀ b,pickS b lo hi=lo∨pickS b lo hi=hi:=fun b=>by unfold pickS;split <;> simp
 have hq2:∀ b,pickS b hi lo=lo∨pickS b hi lo=hi:=fun b=>by unfold pickS;split <;> simp
 unfold prodsN prods1
 split
 · split
   · exact ⟨(h _ _ (.inr rfl) (hp2 _)).1,(h _ _ (.inl rfl) (hp _)).1⟩
   · exact ⟨(h _ _ (.inl rfl) (hp2 _)).1,(h _ _ (.inr rfl) (hp _)).1⟩
 · split
   · split
     · exact ⟨(h _ _ (hq2 _) (.inr rfl)).2,(h _ _ (hq _) (.inl rfl)).2⟩
     · exact ⟨(h _ _ (hq2 _) (.inl rfl)).2,(h _ _ (hq _) (.inr rfl)).2⟩
   · have a:=(h lo lo' (.inl rfl) (.inl rfl)).1
     have b:=(h lo hi' (.inl rfl) (.inr rfl)).1
     have c:=(h hi lo' (.inr rfl) (.inl rfl)).1
     have d:=(h hi hi' (.inr rfl) (.inr rfl)).1
     exact ⟨gr_all b c,gr_all a d⟩
structure Wq (B:Int) (r:DR):Prop where
 e1:-B≤r.e
 e2:r.e+(nb r.m:Int)≤B
theorem prodN_wq {B C:Int} {r s:DR} (h:Tq B r) (k:Tq C s):Wq (B+C) (prodN r s):=by
 have h1:=h.e1
 have h2:=h.e2
 have k1:=k.e1
 have k2:=k.e2
 have h3:=nb_mul r.m s.m
 exact ⟨by show -(B+C)≤r.e+s.e;omega,by show r.e+s.e+(nb (r.m*s.m):Int)≤B+C;omega⟩
structure MnMx (L H a b c d:Rat):Prop where
 l1:L≤a*c
 l2:L≤a*d
 l3:L≤b*c
 l4:L≤b*d
 u1:a*c≤H
 u2:a*d≤H
 u3:b*c≤H
 u4:b*d≤H
 lo:L=a*c∨L=a*d∨L=b*c∨L=b*d
 hi:H=a*c∨H=a*d∨H=b*c∨H=b*d
theorem MnMx.le {L H a b c d:Rat} (h:MnMx L H a b c d):L≤H:=Rat.le_trans h.l1 h.u1
theorem prods_q {B:Int} {r s:SRes} (h:Sq B r) (k:Sq B s):MnMx (rv (prodsN r.lo r.hi s.lo s.hi).1) (rv (prodsN r.lo r.hi s.lo s.hi).2) (rv r.lo) (rv r.hi) (rv s.lo) (rv s.hi):=by
 have hv:=(rv_le (.inr h.l.e1) (.inr h.h.e1)).1 h.le
 have kv:=(rv_le (.inr k.l.e1) (.inr k.h.e1)).1 k.le
 obtain ⟨mn,mx⟩:=prods_val h.l.pr h.h.pr k.l.pr k.h.pr h.l.e1 h.h.e1 k.l.e1 k.h.e1 hv kv
 have W:=prods_all (Q:=Wq (B+B)) (fun r' s' hr hs=>by
  have tr:Tq B r':=hr.elim (fun e=>e ▸ h.l) (fun e=>e ▸ h.h)
  have ts:Tq B s':=hs.elim (fun e=>e ▸ k.l) (fun e=>e ▸ k.h)
  exact ⟨prodN_wq tr ts,prodN_wq ts tr⟩)
 have e1:rv (prodsN r.lo r.hi s.lo s.hi).1=(val (prodsN r.lo r.hi s.lo s.hi).1 (-B+-B):Rat)*tp (-B+-B):=rv_val (.inr (by have:=W.1.e1;omega))
 have e2:rv (prodsN r.lo r.hi s.lo s.hi).2=(val (prodsN r.lo r.hi s.lo s.hi).2 (-B+-B):Rat)*tp (-B+-B):=rv_val (.inr (by have:=W.2.e1;omega))
 have pr:∀ {x y:DR},Tq B x→Tq B y→rv x*rv y=((val x (-B)*val y (-B):Int):Rat)*tp (-B+-B):=fun {x y} hx hy=>by
  rw [rv_val (g:=-B) (.inr hx.e1),rv_val (g:=-B) (.inr hy.e1),tp_add]
  push_cast
  grind
 rw [e1,e2]
 have ht:=Rat.le_of_lt (tp_pos (-B+-B))
 have le:∀ {a b:Int},a≤b→(a:Rat)*tp (-B+-B)≤(b:Rat)*tp (-B+-B):=fun hab=>Rat.mul_le_mul_of_nonneg_right (by exact_mod_cast hab) ht
 refine ⟨?_,?_,?_,?_,?_,?_,?_,?_,?_,?_⟩
 · rw [pr h.l k.l];exact le mn.l1
 · rw [pr h.l k.h];exact le mn.l2
 · rw [pr h.h k.l];exact le mn.l3
 · rw [pr h.h k.h];exact le mn.l4
 · rw [pr h.l k.l];exact le mx.l1
 · rw [pr h.l k.h];exact le mx.l2
 · rw [pr h.h k.l];exact le mx.l3
 · rw [pr h.h k.h];exact le mx.l4
 · rw [pr h.l k.l,pr h.l k.h,pr h.h k.l,pr h.h k.h]
   rcases mn.one with e | e | e | e <;> rw [e] <;> simp
 · rw [pr h.l k.l,pr h.l k.h,pr h.h k.l,pr h.h k.h]
   rcases mx.one with e | e | e | e <;> rw [e] <;> simp
theorem mul_q {p B:Int} {r s:SRes} (hp1:1≤p) (hp2:p≤8192) (h:Sq B r) (k:Sq B s) (hB:2*B≤262000) (hB0:0≤B) :
 Sq (2*B+1) (mulC p false r.lo r.hi s.lo s.hi)∧nb (mulC p false r.lo r.hi s.lo s.hi).lo.m≤p.toNat+1∧nb (mulC p false r.lo r.hi s.lo s.hi).hi.m≤p.toNat+1 ∧
 ∃ L H,MnMx L H (rv r.lo) (rv r.hi) (rv s.lo) (rv s.hi)∧Cd (uP p.toNat) L (rv (mulC p false r.lo r.hi s.lo s.hi).lo)∧Cu (uP p.toNat) H (rv (mulC p false r.lo r.hi s.lo s.hi).hi):=by
 have M:=prods_q h k
 have W:=prods_all (Q:=Wq (B+B)) (fun r' s' hr hs=>by
  have tr:Tq B r':=hr.elim (fun e=>e ▸ h.l) (fun e=>e ▸ h.h)
  have ts:Tq B s':=hs.elim (fun e=>e ▸ k.l) (fun e=>e ▸ k.h)
  exact ⟨prodN_wq tr ts,prodN_wq ts tr⟩)
 have hb:bad2 p false r.lo r.hi s.lo s.hi=false:=by
  unfold bad2
  rw [right_tq h.l h.h h.le,right_tq k.l k.h k.le,pBad_q hp1 hp2]
  rfl
 obtain ⟨x,y,hxy⟩:∃ x y,prodsN r.lo r.hi s.lo s.hi=(x,y):=⟨_,_,rfl⟩
 have hE:mulC p false r.lo r.hi s.lo s.hi=outwS p.toNat x y:=by unfold mulC;rw [hb,hxy];rfl
 rw [hxy] at M W
 have w1:=W.1.e1
 have w2:=W.1.e2
 have w3:=W.2.e1
 have w4:=W.2.e2
 dsimp only at w1 w2 w3 w4 M
 have c1:=cut_q (neg:=x.neg) (V:=x.m) (e:=x.e) (B:=2*B) (P:=p.toNat) false (by omega) (by omega) (by omega) (by omega) (by omega) (by omega)
 have c2:=cut_q (neg:=y.neg) (V:=y.m) (e:=y.e) (B:=2*B) (P:=p.toNat) true (by omega) (by omega) (by omega) (by omega) (by omega) (by omega)
 have hE2:mulC p false r.lo r.hi s.lo s.hi=⟨false,cutD x.neg x.m x.e false p.toNat false,cutD y.neg y.m y.e false p.toNat true⟩:=by
  rw [hE]
  unfold outwS keepS
  rw [c1.1.ok,c2.1.ok]
  rfl
 have g1:=c1.2.2.1 rfl
 have g2:=c2.2.2.2 rfl
 rw [hE2]
 exact ⟨⟨rfl,c1.1,c2.1,cd_cu g1 g2 M.le⟩,c1.2.1,c2.2.1,_,_,M,g1,g2⟩
theorem quo_q {r s:DR} {B C:Int} {P:Nat} (up:Bool) (hP1:1≤P) (hP:P≤8192) (hr:Tq B r) (hs:Tq C s) (hn':s.neg=false) (h0:0 < s.m) (hB:B+C+(P:Int)≤260000) (hB0:0≤B) (hC0:0≤C) :
 Tq (B+C+(P:Int)+2) (qN r s P up)∧nb (qN r s P up).m≤P+1∧(up=false→Cd (uP P) (rv r) (rv (qN r s P up)*rv s))∧(up=true→Cu (uP P) (rv r) (rv (qN r s P up)*rv s)):=by
 have a1:=hr.b
 have a2:=hr.e1
 have a3:=hr.e2
 have b1:=hs.b
 have b2:=hs.e1
 have b3:=hs.e2
 rcases Nat.eq_zero_or_pos r.m with hz | hr0
 · have hq:qN r s P up=DR.zero:=by
    unfold qN quoD
    rw [hz,Nat.zero_mul,Nat.zero_div,Nat.zero_mod,show decide (0≠0)=false from rfl,cut_zero]
   have e1:rv r=0:=by unfold rv;rw [hz,qv_zero]
   have e2:rv DR.zero=0:=by unfold rv;exact qv_zero _ _
   rw [hq,e1,e2,Rat.zero_mul]
   refine ⟨⟨rfl,rfl,by show nb 0≤9000;rw [nb_zero];omega,by show -(B+C+(P:Int)+2)≤0;omega,by show (0:Int)+(nb 0:Int)≤_;rw [nb_zero];omega⟩,by show nb 0≤_;rw [nb_zero];omega,fun _=>Cd.refl (Rat.le_of_lt (uP_pos P)),fun _=>Cu.refl (Rat.le_of_lt (uP_pos P))⟩
 obtain ⟨R,hR⟩:∃ R,R=P+nb s.m-nb r.m:=⟨_,rfl⟩
 have hquo:=quo_bits (r:=R) hr0 h0 (by omega) hP1
 unfold qN quoD
 rw [← hR,cut_kept,hn',show (r.neg != false)=r.neg by cases r.neg <;> rfl]
 have hN:=nb_mul_le r.m R
 have rvs:rv s=(s.m:Rat)*tp s.e:=by unfold rv;rw [hn',qv_false]
 have hNN:(r.m*2^R:Nat)*tp (r.e-(R:Int))=(r.m:Rat)*tp r.e:=by
  push_cast
  have:=tp_add (r.e-(R:Int)) (R:Int)
  rw [show r.e-(R:Int)+(R:Int)=r.e by omega,tp_nat] at this
  rw [this]
  push_cast
  grind
 have hNN2:nb (r.m*2^R)=nb r.m+R:=nb_mul_pow hr0 R
 generalize hNe:r.m*2^R=N at *
 have hN0:0 < N:=by
  rcases Nat.eq_zero_or_pos N with h | h
  · rw [h,nb_zero] at hNN2
    have:=nb_pos hr0
    omega
  · exact h
 have hdm:=Nat.div_add_mod N s.m
 have hlt:=Nat.mod_lt N h0
 have hk2:=nb_kept2 r.neg (N/s.m) (decide (N%s.m≠0)) P up
 have hk:=nb_kept r.neg (N/s.m) (decide (N%s.m≠0)) P up
 have hgap:=kept_gap (neg:=r.neg) (Q:=N/s.m) (more:=decide (N%s.m≠0)) (P:=P) (up:=up) hP1 hquo.2 (fun _=>hquo.1)
 have hQb:nb (N/s.m)≤nb r.m+R+1-nb s.m:=by
  refine (nb_le_iff _ _).2 ?_
  refine Nat.div_lt_of_lt_mul ?_
  have g1:=nb_ge h0
  have g2:=nb_lt N
  rw [hNN2] at g2
  have g3:2^(nb s.m-1)*2^(nb r.m+R+1-nb s.m)≤s.m*2^(nb r.m+R+1-nb s.m):=Nat.mul_le_mul_right _ g1
  rw [← Nat.pow_add] at g3
  have g4:nb r.m+R≤nb s.m-1+(nb r.m+R+1-nb s.m):=by omega
  have g5:2^(nb r.m+R)≤2^(nb s.m-1+(nb r.m+R+1-nb s.m)):=Nat.pow_le_pow_right (by omega) g4
  omega
 have hs1:=nb_pos h0
 have hr1:=nb_pos hr0
 have hle:nb (N/s.m)-P+(nb (kept r.neg (N/s.m) (decide (N%s.m≠0)) P up))≤nb (N/s.m)+1:=by omega
 have G:=mkD_good r.neg (V:=kept r.neg (N/s.m) (decide (N%s.m≠0)) P up) (e:=r.e-s.e-(R:Int)+((nb (N/s.m)-P:Nat):Int)) (by omega) (by omega) (by omega)
 have mkq:=mk_q (neg:=r.neg) (V:=kept r.neg (N/s.m) (decide (N%s.m≠0)) P up) (e:=r.e-s.e-(R:Int)+((nb (N/s.m)-P:Nat):Int)) (B:=B+C+(P:Int)+2) (by omega) (by omega) (by omega) (by omega) (by omega)
 have hv:=mkq.2.1
 rw [qv_mul] at hv
 refine ⟨mkq.1,Nat.le_trans mkq.2.2 hk2,?_⟩
 have ht:=Rat.le_of_lt (tp_pos (r.e-(R:Int)))
 have hu:=uP_pos P
 have hPe:((kept r.neg (N/s.m) (decide (N%s.m≠0)) P up*2^(nb (N/s.m)-P):Nat):Rat)*tp (r.e-s.e-(R:Int))*rv s=((kept r.neg (N/s.m) (decide (N%s.m≠0)) P up*2^(nb (N/s.m)-P)*s.m:Nat):Rat)*tp (r.e-(R:Int)):=by
  rw [rvs,Rat.natCast_mul (kept r.neg (N/s.m) (decide (N%s.m≠0)) P up*2^(nb (N/s.m)-P)) s.m,show r.e-(R:Int)=r.e-s.e-(R:Int)+s.e by omega,tp_add]
  grind
 have hrv:∀ b,r.neg=b→rv r=if b then -((N:Rat)*tp (r.e-(R:Int))) else (N:Rat)*tp (r.e-(R:Int)):=fun b hb=>by
  unfold rv
  rw [hb]
  cases b
  · rw [qv_false,hNN];rfl
  · rw [qv_true,hNN];rfl
 rw [hv]
 generalize hK:kept r.neg (N/s.m) (decide (N%s.m≠0)) P up*2^(nb (N/s.m)-P)=K at *
 have hup:N≤(N/s.m+(if decide (N%s.m≠0)=true then 1 else 0))*s.m:=by
  rw [Nat.add_mul]
  rw [Nat.mul_comm s.m] at hdm
  by_cases h2:N%s.m=0
  · rw [show decide (N%s.m≠0)=false by simp [h2]]
    simp only [Bool.false_eq_true,if_false,Nat.zero_mul,Nat.add_zero]
    omega
  · rw [show decide (N%s.m≠0)=true by simp [h2]]
    simp only [if_true,Nat.one_mul]
    omega
 have hdn:N/s.m*s.m≤N:=Nat.div_mul_le_self _ _
 generalize hX:N/s.m+(if decide (N%s.m≠0)=true then 1 else 0)=X at *
 have low:K≤N/s.m→(X-K)*2^(P-1)≤N/s.m→(N:Rat)*tp (r.e-(R:Int))*(1-uP P)≤((K*s.m:Nat):Rat)*tp (r.e-(R:Int))∧((K*s.m:Nat):Rat)*tp (r.e-(R:Int))≤(N:Rat)*tp (r.e-(R:Int)):=fun a b=>by
  have l1:K*s.m≤N:=Nat.le_trans (Nat.mul_le_mul_right _ a) hdn
  have l2:(N-K*s.m)*2^(P-1)≤N:=by
   have q1:N-K*s.m≤(X-K)*s.m:=by rw [Nat.sub_mul];omega
   have q2:=Nat.mul_le_mul_right (2^(P-1)) q1
   have q3:=Nat.mul_le_mul_right s.m b
   have q4:(X-K)*s.m*2^(P-1)=(X-K)*2^(P-1)*s.m:=by rw [Nat.mul_assoc,Nat.mul_assoc,Nat.mul_comm s.m]
   omega
  have s1:=Rat.mul_le_mul_of_nonneg_right (gap_share hP1 l2 l1) ht
  have s2:=Rat.mul_le_mul_of_nonneg_right (nat_le l1) ht
  constructor <;> grind
 have high:X≤K→(K-N/s.m)*2^(P-1)≤N/s.m→((K*s.m:Nat):Rat)*tp (r.e-(R:Int))≤(N:Rat)*tp (r.e-(R:Int))*(1+uP P)∧(N:Rat)*tp (r.e-(R:Int))≤((K*s.m:Nat):Rat)*tp (r.e-(R:Int)):=fun a b=>by
  have l1:N≤K*s.m:=Nat.le_trans hup (Nat.mul_le_mul_right _ a)
  have l2:(K*s.m-N)*2^(P-1)≤N:=by
   have q1:K*s.m-N≤(K-N/s.m)*s.m:=by
    rw [Nat.sub_mul]
    have hQX:N/s.m*s.m≤K*s.m:=Nat.le_trans hdn l1
    have hlow2:N < N/s.m*s.m+s.m:=by rw [Nat.mul_comm s.m] at hdm;omega
    omega
   have q2:=Nat.mul_le_mul_right (2^(P-1)) q1
   have q3:=Nat.mul_le_mul_right s.m b
   have q4:(K-N/s.m)*s.m*2^(P-1)=(K-N/s.m)*2^(P-1)*s.m:=by rw [Nat.mul_assoc,Nat.mul_assoc,Nat.mul_comm s.m]
   omega
  have s1:=Rat.mul_le_mul_of_nonneg_right (gap_share2 hP1 l2 l1) ht
  have s2:=Rat.mul_le_mul_of_nonneg_right (nat_le l1) ht
  constructor <;> grind
 have hv0:=qv_pos N (r.e-(R:Int))
 obtain ⟨g1,g2⟩:=hgap
 cases hneg:r.neg
 · rw [hrv false hneg,qv_false,hPe]
   rw [hneg] at g1 g2
   refine ⟨fun hu'=>?_,fun hu'=>?_⟩
   · obtain ⟨a,b⟩:=g1 hu'
     obtain ⟨c,d⟩:=low a b
     exact cd_pos hv0 d c
   · obtain ⟨a,b⟩:=g2 (by rw [hu'];decide)
     obtain ⟨c,d⟩:=high a b
     exact cu_pos hv0 d c
 · rw [hrv true hneg,qv_true,Rat.neg_mul,hPe]
   rw [hneg] at g1 g2
   refine ⟨fun hu'=>?_,fun hu'=>?_⟩
   · obtain ⟨a,b⟩:=g2 (by rw [hu'];decide)
     obtain ⟨c,d⟩:=high a b
     exact (cu_pos hv0 d c).flip
   · obtain ⟨a,b⟩:=g1 hu'
     obtain ⟨c,d⟩:=low a b
     exact (cd_pos hv0 d c).flip
end Go.Proofs.YtmbmohibpkepdaaGreatDoor
namespace Go.Proofs.YtmbmohibpkepdaaGreatDoor
open Go.RowKit
theorem neg_rv {r:DR} (hn:r.neg=true):rv r≤0:=by
 unfold rv
 rw [hn,qv_true]
 have:=qv_pos r.m r.e
 grind
theorem pos_rv {r:DR} (h0:0 < rv r):r.neg=false∧0 < r.m:=by
 have h1:r.neg=false:=by
  cases hn:r.neg
  · rfl
  · have:=neg_rv hn
    grind
 refine ⟨h1,?_⟩
 rcases Nat.eq_zero_or_pos r.m with hz | hz
 · unfold rv at h0
   rw [hz,qv_zero] at h0
   exact absurd h0 (by decide)
 · exact hz
theorem sign_pos {B:Int} {s:SRes} (k:Sq B s) (hs:0 < rv s.lo):signI s.lo s.hi=1:=by
 obtain ⟨h1,h2⟩:=pos_rv hs
 unfold signI signS
 rw [right_tq k.l k.h k.le,h1,if_neg (show ¬ s.lo.m=0 by omega)]
 rfl
theorem quo_le {a b c d x y L H:Rat} (hab:a≤b) (hcd:c≤d) (hc:0 < c) (h1:0≤a→x=d) (h2:a < 0→x=c) (h3:0≤b→y=c) (h4:b < 0→y=d) (k1:L*x≤a) (k2:b≤H*y):L≤H:=by
 by_cases ha:0≤a
 · rw [h1 ha] at k1
   rw [h3 (by grind)] at k2
   refine Rat.le_of_mul_le_mul_right (c:=c) ?_ hc
   rcases rat_total L 0 with hL | hL
   · have:0≤-L*c:=Rat.mul_nonneg (by grind) (Rat.le_of_lt hc)
     grind
   · have:=Rat.mul_le_mul_of_nonneg_left hcd hL
     grind
 · have ha:=Rat.not_le.1 ha
   rw [h2 ha] at k1
   by_cases hb:0≤b
   · rw [h3 hb] at k2
     exact Rat.le_of_mul_le_mul_right (c:=c) (by grind) hc
   · have hb:=Rat.not_le.1 hb
     rw [h4 hb] at k2
     refine Rat.le_of_mul_le_mul_right (c:=c) ?_ hc
     rcases rat_total 0 H with hH | hH
     · have:0≤H*c:=Rat.mul_nonneg hH (Rat.le_of_lt hc)
       grind
     · have:=Rat.mul_le_mul_of_nonneg_left hcd (show 0≤-H by grind)
       grind
structure Qe (u a b c d L H:Rat):Prop where
 lo1:0≤a→Cd u a (L*d)
 lo2:a < 0→Cd u a (L*c)
 hi1:0≤b→Cu u b (H*c)
 hi2:b < 0→Cu u b (H*d)
theorem Qe.le {u a b c d L H:Rat} (q:Qe u a b c d L H) (hab:a≤b) (hcd:c≤d) (hc:0 < c):L≤H:=by
 refine quo_le (x:=if 0≤a then d else c) (y:=if 0≤b then c else d) hab hcd hc (fun h=>if_pos h) (fun h=>if_neg (Rat.not_le.2 h)) (fun h=>if_pos h) (fun h=>if_neg (Rat.not_le.2 h)) ?_ ?_
 · split
   · rename_i h;exact (q.lo1 h).le
   · rename_i h;exact (q.lo2 (Rat.not_le.1 h)).le
 · split
   · rename_i h;exact (q.hi1 h).le
   · rename_i h;exact (q.hi2 (Rat.not_le.1 h)).le
theorem neg_iff {B:Int} {r:DR} (h:Tq B r):(0≤rv r→r.neg=false)∧(rv r < 0→r.neg=true):=by
 constructor
 · intro h0
   cases hn:r.neg
   · rfl
   · exfalso
     have hm:0 < r.m:=by
      rcases Nat.eq_zero_or_pos r.m with hz | hz
      · have:=(h.pr.zero hz).2
        rw [hn] at this
        cases this
      · exact hz
     unfold rv at h0
     rw [hn,qv_true] at h0
     have h1:(0:Rat) < (r.m:Rat):=Rat.natCast_pos.2 hm
     have:=Rat.mul_pos h1 (tp_pos r.e)
     grind
 · intro h0
   cases hn:r.neg
   · have:=rv_nonneg hn
     grind
   · rfl
theorem div_q {p B C:Int} {r s:SRes} (hp1:1≤p) (hp2:p≤8192) (h:Sq B r) (k:Sq C s) (hs:0 < rv s.lo) (hB:B+C+p≤260000) (hB0:0≤B) (hC0:0≤C) :
 Sq (B+C+p+2) (divC p false r.lo r.hi s.lo s.hi)∧nb (divC p false r.lo r.hi s.lo s.hi).lo.m≤p.toNat+1∧nb (divC p false r.lo r.hi s.lo s.hi).hi.m≤p.toNat+1 ∧
 Qe (uP p.toNat) (rv r.lo) (rv r.hi) (rv s.lo) (rv s.hi) (rv (divC p false r.lo r.hi s.lo s.hi).lo) (rv (divC p false r.lo r.hi s.lo s.hi).hi):=by
 have hsh:0 < rv s.hi:=by have:=k.le;grind
 obtain ⟨a1,a2⟩:=pos_rv hs
 obtain ⟨b1,b2⟩:=pos_rv hsh
 have hb:bad2 p false r.lo r.hi s.lo s.hi=false:=by
  unfold bad2
  rw [right_tq h.l h.h h.le,right_tq k.l k.h k.le,pBad_q hp1 hp2]
  rfl
 have hfit:=fitB_q hp1 hp2
 have T:=fun (a:DR) (ta:Tq B a) (d:DR) (td:Tq C d) (d1:d.neg=false) (d2:0 < d.m) (up:Bool)=>quo_q (P:=p.toNat) up (by omega) (by omega) ta td d1 d2 (by omega) hB0 hC0
 have hE:divC p false r.lo r.hi s.lo s.hi=quoC p r.lo r.hi s.lo s.hi:=by
  unfold divC
  rw [hb,sign_pos k hs]
  rfl
 have pk:∀ b,Tq C (pickS b s.lo s.hi)∧(pickS b s.lo s.hi).neg=false∧0 < (pickS b s.lo s.hi).m:=fun b=>by
  unfold pickS
  split
  · exact ⟨k.l,a1,a2⟩
  · exact ⟨k.h,b1,b2⟩
 have pk2:∀ b,Tq C (pickS b s.hi s.lo)∧(pickS b s.hi s.lo).neg=false∧0 < (pickS b s.hi s.lo).m:=fun b=>by
  unfold pickS
  split
  · exact ⟨k.h,b1,b2⟩
  · exact ⟨k.l,a1,a2⟩
 obtain ⟨p1,p2,p3⟩:=pk r.lo.neg
 obtain ⟨q1,q2,q3⟩:=pk2 r.hi.neg
 have t1:=T r.lo h.l _ p1 p2 p3 false
 have t2:=T r.hi h.h _ q1 q2 q3 true
 have e1:=overI_qN (p:=p) false h.l.ok p1.ok p3 hfit
 have e2:=overI_qN (p:=p) true h.h.ok q1.ok q3 hfit
 have hE2:divC p false r.lo r.hi s.lo s.hi=⟨false,qN r.lo (pickS r.lo.neg s.lo s.hi) p.toNat false,qN r.hi (pickS r.hi.neg s.hi s.lo) p.toNat true⟩:=by
  rw [hE]
  unfold quoC keepS
  rw [e1,e2,t1.1.ok,t2.1.ok]
  rfl
 have Q:Qe (uP p.toNat) (rv r.lo) (rv r.hi) (rv s.lo) (rv s.hi) (rv (qN r.lo (pickS r.lo.neg s.lo s.hi) p.toNat false)) (rv (qN r.hi (pickS r.hi.neg s.hi s.lo) p.toNat true)):=by
  have g1:=t1.2.2.1 rfl
  have g2:=t2.2.2.2 rfl
  refine ⟨fun h0=>?_,fun h0=>?_,fun h0=>?_,fun h0=>?_⟩
  · have hn:=(neg_iff h.l).1 h0
    rw [hn] at g1 ⊢
    exact g1
  · have hn:=(neg_iff h.l).2 h0
    rw [hn] at g1 ⊢
    exact g1
  · have hn:=(neg_iff h.h).1 h0
    rw [hn] at g2 ⊢
    exact g2
  · have hn:=(neg_iff h.h).2 h0
    rw [hn] at g2 ⊢
    exact g2
 rw [hE2]
 exact ⟨⟨rfl,t1.1.more (by omega),t2.1.more (by omega),Q.le h.le k.le hs⟩,t1.2.1,t2.2.1,Q⟩
end Go.Proofs.YtmbmohibpkepdaaGreatDoor
