/-
 nat.Add answers the sum, trimmed.
 cmp.Compare at int and at uint64; nat.Cmp: the order of two numbers.
 volvelleref01: cut, compare, Same, Trim.
 From a walk to a row: arguments that are slices of uint64 (and one int), opened and shut.
 nat.subFrom, nat.Sub: differences.
 nat.Sub: a difference, or that there is none. nat.Trim.
-/
import Derived.Deep.QuietTactic
import Derived.BigQuiet
import Derived.OpenShut
import Derived.JoinedCond
import Derived.SizedLaws
import Derived.Carry
import Derived.Shelf.Spec.BitsCarry
import Derived.Test.YtmbmohibpkepdaaGreatDoorPlEGLists
namespace Go.Proofs.YtmbmohibpkepdaaGreatDoor
open Go.RowKit
def NumPost (w:World) (V:Nat) (e:Ending) (w':World):Prop:=∃ v,e=.returned v∧Num w' v V∧Below w.heap.size w w'
set_option maxHeartbeats 400000 in
theorem add_any (A B:Option Addr) (n m c d:Nat) (x y:Nat→Nat) (w:World) (ha:Sl w A n c x) (hb:Sl w B m d y) (hn:n≤900000) (hm:m≤900000) :
 Calls Tryz.prog 148 #[.slice A n c,.slice B m d] w (NumPost w (vs B64 x n+vs B64 y m)):=by
 obtain ⟨A1,c1,e1,s1⟩:=viewV_sl ha
 obtain ⟨B1,d1,e2,s2⟩:=viewV_sl hb
 have l1:=tl_le x n
 have l2:=tl_le y m
 have va:=vs_tl B64 x n
 have vb:=vs_tl B64 y m
 have V1:=view_raw A n c x w ha (by omega)
 have V2:=view_raw B m d y w hb (by omega)
 rw [e1] at V1
 rw [e2] at V2
 rw [← va,← vb]
 clear va vb e1 e2
 generalize tl x n=p at *
 generalize tl y m=q at *
 have H1:=Lib.hid V1
 have H2:=Lib.hid V2
 clear V1 V2
 by_cases hlt:p < q
 · have hmk:∀ u:World,(Instr.makeSlice 22 (.int .i64 ((q:Int)+1)) (.int .i64 ((q:Int)+1))).run Tryz.prog u =
    .ok (.slice (some ⟨u.heap.size,0,none⟩) (q+1) (q+1)) (u.alloc (.cells (madeCells #[.int .u64 0] (q+1)) 51)):=fun u=>make_run (q+1) (by omega) u
   have hrow:=Row.made 51 w (q+1)
   go_enter Tryz.func148,Tryz.ntmps148
   go_wp2_with fail
   refine H1.out.mono ?_
   rintro e w' ⟨rfl,rfl⟩
   go_wp2_with fail
   refine H2.out.mono ?_
   rintro e w' ⟨rfl,rfl⟩
   go_wp2_with (with_reducible refine wpList_copy_words rfl (.tmp 21) (.tmp 22) 22 rfl 51 Tryz.underlying22 size64 51 w.heap.size (q+1) (q+1) (q+1) _ B1 q d1 y rfl rfl hrow (Nat.le_refl _) (s2.alloc _) (by omega) ?_;intro w2 hrow2 hon2)
   have hb2:Below w.heap.size w w2:=Only.below ((Below.refl _ w).alloc (Nat.le_refl _) _) hon2 (by simp) (Nat.le_refl _)
   have s1':=s1.below hb2
   refine (addInto_any w.heap.size 0 q (q+1) (q+1) _ A1 p c1 x w2 hrow2 (by omega) (by omega) s1' (by omega) (s1.far (Nat.le_refl _))).mono ?_
   rintro e w3 ⟨F',cy,rfl,hinv⟩
   have hrc:=hinv.2.1.cell (i:=q) (by omega)
   have hrf:=hinv.2.1.frozen q
   have hcy:cy < B64:=Nat.lt_of_le_of_lt hinv.1 (by unfold B64;omega)
   have hrow4:=hinv.2.1.set_ q cy hcy
   have hb3:Below w.heap.size w w3:=Only.below hb2 hinv.2.2.1 hb2.size (Nat.le_refl _)
   have hb4:Below w.heap.size w (w3.setCell ⟨w.heap.size,q,none⟩ (.int .u64 (cy:Int))):=hb3.setCell (Nat.le_refl _) _
   have hsum:=Lib.hid hinv.2.2.2.2
   go_wp2_with fail
   generalize w3.setCell ⟨w.heap.size,q,none⟩ (.int .u64 (cy:Int))=w4 at *
   refine (view_raw _ (q+1) (q+1) _ w4 (hrow4.sl0 (q+1) (q+1) (Nat.le_refl _) (Nat.le_refl _)) (by omega)).mono ?_
   rintro e w5 ⟨rfl,rfl⟩
   go_wp2_with fail
   go_ret
   refine ⟨_,rfl,?_,hb4⟩
   have hv:=viewV_num (hrow4.sl0 (q+1) (q+1) (Nat.le_refl _) (Nat.le_refl _))
   rw [vs_succ,upd_same,vs_upd_ge _ _ _ _ _ (Nat.le_refl _)] at hv
   have hs:=hsum.out
   simp only [Nat.zero_add] at hs
   rw [hs,vs_pad _ _ _ _ (Nat.le_refl _),vs_pad _ _ _ _ (by omega)] at hv
   rw [Nat.add_comm (vs B64 y q)] at hv;exact hv
 · have hmk:∀ u:World,(Instr.makeSlice 22 (.int .i64 ((p:Int)+1)) (.int .i64 ((p:Int)+1))).run Tryz.prog u =
    .ok (.slice (some ⟨u.heap.size,0,none⟩) (p+1) (p+1)) (u.alloc (.cells (madeCells #[.int .u64 0] (p+1)) 51)):=fun u=>make_run (p+1) (by omega) u
   have hrow:=Row.made 51 w (p+1)
   go_enter Tryz.func148,Tryz.ntmps148
   go_wp2_with fail
   refine H1.out.mono ?_
   rintro e w' ⟨rfl,rfl⟩
   go_wp2_with fail
   refine H2.out.mono ?_
   rintro e w' ⟨rfl,rfl⟩
   go_wp2_with (with_reducible refine wpList_copy_words rfl (.tmp 21) (.tmp 22) 22 rfl 51 Tryz.underlying22 size64 51 w.heap.size (p+1) (p+1) (p+1) _ A1 p c1 x rfl rfl hrow (Nat.le_refl _) (s1.alloc _) (by omega) ?_;intro w2 hrow2 hon2)
   have hb2:Below w.heap.size w w2:=Only.below ((Below.refl _ w).alloc (Nat.le_refl _) _) hon2 (by simp) (Nat.le_refl _)
   have s1':=s2.below hb2
   refine (addInto_any w.heap.size 0 p (p+1) (p+1) _ B1 q d1 y w2 hrow2 (by omega) (by omega) s1' (by omega) (s2.far (Nat.le_refl _))).mono ?_
   rintro e w3 ⟨F',cy,rfl,hinv⟩
   have hrc:=hinv.2.1.cell (i:=p) (by omega)
   have hrf:=hinv.2.1.frozen p
   have hcy:cy < B64:=Nat.lt_of_le_of_lt hinv.1 (by unfold B64;omega)
   have hrow4:=hinv.2.1.set_ p cy hcy
   have hb3:Below w.heap.size w w3:=Only.below hb2 hinv.2.2.1 hb2.size (Nat.le_refl _)
   have hb4:Below w.heap.size w (w3.setCell ⟨w.heap.size,p,none⟩ (.int .u64 (cy:Int))):=hb3.setCell (Nat.le_refl _) _
   have hsum:=Lib.hid hinv.2.2.2.2
   go_wp2_with fail
   generalize w3.setCell ⟨w.heap.size,p,none⟩ (.int .u64 (cy:Int))=w4 at *
   refine (view_raw _ (p+1) (p+1) _ w4 (hrow4.sl0 (p+1) (p+1) (Nat.le_refl _) (Nat.le_refl _)) (by omega)).mono ?_
   rintro e w5 ⟨rfl,rfl⟩
   go_wp2_with fail
   go_ret
   refine ⟨_,rfl,?_,hb4⟩
   have hv:=viewV_num (hrow4.sl0 (p+1) (p+1) (Nat.le_refl _) (Nat.le_refl _))
   rw [vs_succ,upd_same,vs_upd_ge _ _ _ _ _ (Nat.le_refl _)] at hv
   have hs:=hsum.out
   simp only [Nat.zero_add] at hs
   rw [hs,vs_pad _ _ _ _ (Nat.le_refl _),vs_pad _ _ _ _ (by omega)] at hv
   exact hv
end Go.Proofs.YtmbmohibpkepdaaGreatDoor
namespace Go.Proofs.YtmbmohibpkepdaaGreatDoor
open Go.RowKit
def cmpN (a b:Nat):Int:=if a < b then -1 else if b < a then 1 else 0
theorem cmpN_lt {a b:Nat} (h:a < b):cmpN a b=-1:=by simp [cmpN,h]
theorem cmpN_gt {a b:Nat} (h:b < a):cmpN a b=1:=by simp [cmpN,h,Nat.lt_asymm h]
theorem cmpN_eq (a:Nat):cmpN a a=0:=by simp [cmpN]
theorem compare_i (a b:Nat) (w:World):Calls Tryz.prog 67 #[.int .i64 (a:Int),.int .i64 (b:Int)] w fun e w'=>e=.returned (.int .i64 (cmpN a b))∧w'=w:=by
 rcases Nat.lt_trichotomy a b with h | rfl | h
 · rw [cmpN_lt h]
   go_enter Tryz.func67,Tryz.ntmps67
   go_wp2
   go_ret
   exact ⟨rfl,rfl⟩
 · rw [cmpN_eq]
   go_enter Tryz.func67,Tryz.ntmps67
   go_wp2
   go_ret
   exact ⟨rfl,rfl⟩
 · rw [cmpN_gt h]
   have h2:¬ a < b:=by omega
   go_enter Tryz.func67,Tryz.ntmps67
   go_wp2
   go_ret
   exact ⟨rfl,rfl⟩
theorem compare_u (a b:Nat) (w:World):Calls Tryz.prog 167 #[.int .u64 (a:Int),.int .u64 (b:Int)] w fun e w'=>e=.returned (.int .i64 (cmpN a b))∧w'=w:=by
 rcases Nat.lt_trichotomy a b with h | rfl | h
 · rw [cmpN_lt h]
   go_enter Tryz.func167,Tryz.ntmps167
   go_wp2
   go_ret
   exact ⟨rfl,rfl⟩
 · rw [cmpN_eq]
   go_enter Tryz.func167,Tryz.ntmps167
   go_wp2
   go_ret
   exact ⟨rfl,rfl⟩
 · rw [cmpN_gt h]
   have h2:¬ a < b:=by omega
   go_enter Tryz.func167,Tryz.ntmps167
   go_wp2
   go_ret
   exact ⟨rfl,rfl⟩
theorem vs_top_lt {b k n:Nat} {x y:Nat→Nat} (hx:∀ j,j < n→x j < b) (hk:k < n) (he:∀ j,k < j→j < n→x j=y j) (h:x k < y k):vs b x n < vs b y n:=by
 obtain ⟨i,rfl⟩:∃ i,n=k+1+i:=⟨n-(k+1),by omega⟩
 rw [vs_add,vs_add b y]
 have e:vs b (fun j=>x (k+1+j)) i=vs b (fun j=>y (k+1+j)) i:=vs_congr fun j hj=>he _ (by omega) (by omega)
 rw [e]
 apply Nat.add_lt_add_right
 rw [vs_succ,vs_succ]
 have h1:=vs_lt (fun j hj=>hx j (by omega):∀ j,j < k→x j < b)
 have h2:(x k+1)*b^k≤y k*b^k:=Nat.mul_le_mul_right _ h
 rw [Nat.add_mul,Nat.one_mul] at h2
 omega
theorem cn_vs_lt {b n m:Nat} {x y:Nat→Nat} (hb:1 < b) (hx:∀ j,j < n→x j < b) (cy:Cn m y) (h:n < m):vs b x n < vs b y m:=by
 have h1:=vs_lt hx
 have h2:=vs_ge (b:=b) cy (by omega)
 have h3:b^n≤b^(m-1):=Nat.pow_le_pow_right (by omega) (by omega)
 omega
theorem B64_gt:1 < B64:=by unfold B64;omega
def Agree (x y:Nat→Nat) (k n:Nat):Prop:=∀ j,k≤j→j < n→x j=y j
theorem Agree.down {x y:Nat→Nat} {k n:Nat} (h:Agree x y (k+1) n) (e:x k=y k):Agree x y k n:=fun j h1 h2=>by
 rcases Nat.lt_or_ge k j with h3 | h3
 · exact h j h3 h2
 · have h4:j=k:=by omega
   rw [h4];exact e
def CmpPost (w:World) (r:Int) (e:Ending) (w':World):Prop:=e=.returned (.int .i64 r)∧Below w.heap.size w w'
theorem below_drewN {B:Nat} {a w:World} (h:Below B a w) (n:Nat):Below B a (w.drewN n):=⟨h.os,h.tape,h.output,h.size,h.block⟩
set_option maxHeartbeats 400000 in
theorem cmp_any (A B:Option Addr) (n m c d:Nat) (x y:Nat→Nat) (w:World) (ha:Sl w A n c x) (hb:Sl w B m d y) (hn:n≤1000000) (hm:m≤1000000) :
 Calls Tryz.prog 122 #[.slice A n c,.slice B m d] w (CmpPost w (cmpN (vs B64 x n) (vs B64 y m))):=by
 obtain ⟨A1,c1,e1,s1⟩:=viewV_sl ha
 obtain ⟨B1,d1,e2,s2⟩:=viewV_sl hb
 have l1:=tl_le x n
 have l2:=tl_le y m
 have va:=vs_tl B64 x n
 have vb:=vs_tl B64 y m
 have ca:=tl_cn x n
 have cb:=tl_cn y m
 have V1:=view_raw A n c x w ha (by omega)
 have V2:=view_raw B m d y w hb (by omega)
 rw [e1] at V1
 rw [e2] at V2
 rw [← va,← vb]
 clear va vb e1 e2
 generalize tl x n=p at *
 generalize tl y m=q at *
 have H1:=Lib.hid V1
 have H2:=Lib.hid V2
 clear V1 V2
 by_cases hpq:p=q
 · subst hpq
   go_enter Tryz.func122,Tryz.ntmps122
   go_wp2_with fail
   refine H1.out.mono ?_
   rintro e w' ⟨rfl,rfl⟩
   go_wp2_with fail
   refine H2.out.mono ?_
   rintro e w' ⟨rfl,rfl⟩
   go_wp2_with fail
   go_loopw [5] (fun i wr=>∃ k:Nat,k≤p∧i=.int .i64 ((k:Int)-1)∧Agree x y k p∧Below w.heap.size w wr) (fun i _=>(intOf i+1).toNat)
   case atStart=>exact ⟨p,Nat.le_refl _,rfl,fun j h1 h2=>by omega,Below.refl _ _⟩
   case round =>
    obtain ⟨k,hk,rfl,hag,hbw⟩:=hrel
    rcases k with _ | k
    · go_wp2
      go_ret
      refine ⟨?_,hbw⟩
      rw [vs_congr (g:=y) fun j hj=>hag j (by omega) hj,cmpN_eq]
      rfl
    · obtain ⟨ad,rfl,hb1,hx64,hc1⟩:=(s1.below hbw).at_ (k:=k) (by omega)
      obtain ⟨bd,rfl,hb2,hy64,hc2⟩:=(s2.below hbw).at_ (k:=k) (by omega)
      by_cases hxy:x k=y k
      · have hne:((x k:Int) != (y k:Int))=false:=by simp [hxy]
        have HX:=Lib.hid hxy
        clear hxy
        go_wp2
        go_quiet (fail)
        go_wp2
        go_roundw
        case rel=>exact ⟨k,by omega,by go_num,hag.down HX.out,below_drewN hbw _⟩
        case measure=>simp [intOf]
      · have hne:((x k:Int) != (y k:Int))=true:=by simp;omega
        have hval:Hid (cmpN (x k) (y k)=cmpN (vs B64 x p) (vs B64 y p)):=by
         rcases Nat.lt_or_ge (x k) (y k) with h | h
         · exact Lib.hid (by rw [cmpN_lt h,cmpN_lt (vs_top_lt s1.small (by omega:k < p) (fun j h1 h2=>hag j (by omega) h2) h)])
         · have h:y k < x k:=by omega
           exact Lib.hid (by rw [cmpN_gt h,cmpN_gt (vs_top_lt s2.small (by omega:k < p) (fun j h1 h2=>(hag j (by omega) h2).symm) h)])
        go_wp2
        go_quiet (fail)
        have hc1':(wr.drewN nq).cell? (ad.add k)=some (.int .u64 ((x k:Nat):Int)):=hc1
        have hc2':(wr.drewN nq).cell? (bd.add k)=some (.int .u64 ((y k:Nat):Int)):=hc2
        have hbw':=below_drewN hbw nq
        clear hc1 hc2 hbw hb1 hb2
        generalize wr.drewN nq=w1 at *
        go_wp2
        go_quiet ((go_at_call 167;exact Calls.quiet_of_same (compare_u _ _ _)))
        go_wp2
        go_ret
        exact ⟨by rw [← hval.out];rfl,below_drewN hbw' _⟩
 · have hne:((p:Int) != (q:Int))=true:=by simp;omega
   have hval:Hid (cmpN p q=cmpN (vs B64 x p) (vs B64 y q)):=by
    rcases Nat.lt_or_ge p q with h | h
    · exact Lib.hid (by rw [cmpN_lt h,cmpN_lt (cn_vs_lt B64_gt s1.small cb h)])
    · have h:q < p:=by omega
      exact Lib.hid (by rw [cmpN_gt h,cmpN_gt (cn_vs_lt B64_gt s2.small ca h)])
   go_enter Tryz.func122,Tryz.ntmps122
   go_wp2_with fail
   refine H1.out.mono ?_
   rintro e w' ⟨rfl,rfl⟩
   go_wp2_with fail
   refine H2.out.mono ?_
   rintro e w' ⟨rfl,rfl⟩
   go_wp2_with fail
   refine (compare_i p q _).mono ?_
   rintro e w' ⟨rfl,rfl⟩
   go_wp2_with fail
   go_ret
   exact ⟨by rw [← hval.out];rfl,Below.refl _ _⟩
end Go.Proofs.YtmbmohibpkepdaaGreatDoor
namespace Go.Proofs.YtmbmohibpkepdaaGreatDoor
open Go.RowKit
def lenOf:Value→Nat | .slice _ n _=>n | _=>0
set_option maxHeartbeats 400000 in
theorem cut_any (A:Option Addr) (n c:Nat) (f:Nat→Nat) (w:World) (h:Sl w A n c f) (hn:n≤1000000) :
 Calls Tryz.prog 165 #[.slice A n c] w fun e w'=>e=.returned (.slice A (tl f n) c)∧w=w':=by
 have hcap:=h.cap
 go_enter Tryz.func165,Tryz.ntmps165
 go_wp2
 go_loop [0] (fun s0=>∃ k:Nat,k≤n∧s0=.slice A k c∧Hid (tl f k=tl f n)) (fun s0=>lenOf s0)
 case atStart=>exact ⟨n,Nat.le_refl _,rfl,rfl⟩
 case round =>
  obtain ⟨k,hk,rfl,ht⟩:=hrel
  rcases k with _ | m
  · go_wp2
    go_ret
    exact ⟨by rw [← ht.out];rfl,rfl⟩
  · obtain ⟨ad,rfl,hb,hx64,hcell⟩:=h.at_ (k:=m) (by omega)
    have hxd:Hid (tl f (m+1)=if f m=0 then tl f m else m+1):=rfl
    generalize f m=x at *
    by_cases h0:x=0
    · subst h0
      go_wp2
      go_round
      case rel=>exact ⟨m,by omega,rfl,Lib.hid (by rw [← ht.out,hxd.out,if_pos rfl])⟩
      case measure=>simp [lenOf]
    · have hne:((x:Int) == 0)=false:=by simp;omega
      go_wp2
      go_ret
      refine ⟨?_,rfl⟩
      rw [← ht.out,hxd.out,if_neg h0]
      rfl
set_option maxHeartbeats 400000 in
theorem compare_any (A B:Option Addr) (p q c1 d1:Nat) (x y:Nat→Nat) (w:World) (s1:Sl w A p c1 x) (s2:Sl w B q d1 y) (ca:Cn p x) (cb:Cn q y) (hx:∀ j,j < p→x j < 65536) (hy:∀ j,j < q→y j < 65536)
 (hn:p≤1000000) (hm:q≤1000000) :
 Calls Tryz.prog 115 #[.slice A p c1,.slice B q d1] w (CmpPost w (cmpN (vs 65536 x p) (vs 65536 y q))):=by
 have HX:=Lib.hid hx
 have HY:=Lib.hid hy
 clear hx hy
 by_cases hpq:p=q
 · subst hpq
   go_enter Tryz.func115,Tryz.ntmps115
   go_wp2_with fail
   go_loopw [5] (fun i wr=>∃ k:Nat,k≤p∧i=.int .i64 ((k:Int)-1)∧Agree x y k p∧Below w.heap.size w wr) (fun i _=>(intOf i+1).toNat)
   case atStart=>exact ⟨p,Nat.le_refl _,rfl,fun j h1 h2=>by omega,Below.refl _ _⟩
   case round =>
    obtain ⟨k,hk,rfl,hag,hbw⟩:=hrel
    rcases k with _ | k
    · go_wp2
      go_ret
      refine ⟨?_,hbw⟩
      rw [vs_congr (g:=y) fun j hj=>hag j (by omega) hj,cmpN_eq]
      rfl
    · obtain ⟨ad,rfl,hb1,hx64,hc1⟩:=(s1.below hbw).at_ (k:=k) (by omega)
      obtain ⟨bd,rfl,hb2,hy64,hc2⟩:=(s2.below hbw).at_ (k:=k) (by omega)
      have K1:Hid (x k < y k→cmpN (vs 65536 x p) (vs 65536 y p)=-1):=Lib.hid fun h=>cmpN_lt (vs_top_lt HX.out (by omega:k < p) (fun j h1 h2=>hag j (by omega) h2) h)
      have K2:Hid (y k < x k→cmpN (vs 65536 x p) (vs 65536 y p)=1):=Lib.hid fun h=>cmpN_gt (vs_top_lt HY.out (by omega:k < p) (fun j h1 h2=>(hag j (by omega) h2).symm) h)
      by_cases hxy:x k < y k
      · go_wp2
        go_quiet (fail)
        go_wp2
        go_ret
        exact ⟨by rw [K1.out hxy];rfl,below_drewN hbw _⟩
      · have hnlt:decide ((x k:Int) < (y k:Int))=false:=by simp;omega
        go_wp2
        go_quiet (fail)
        have hc1':(wr.drewN nq).cell? (ad.add k)=some (.int .u64 ((x k:Nat):Int)):=hc1
        have hc2':(wr.drewN nq).cell? (bd.add k)=some (.int .u64 ((y k:Nat):Int)):=hc2
        have hbw':=below_drewN hbw nq
        clear hc1 hc2 hbw hb1 hb2
        generalize wr.drewN nq=w1 at *
        by_cases hyx:y k < x k
        · go_wp2
          go_quiet (fail)
          go_wp2
          go_ret
          exact ⟨by rw [K2.out hyx];rfl,below_drewN hbw' _⟩
        · have hngt:decide ((y k:Int) < (x k:Int))=false:=by simp;omega
          have E:Hid (x k=y k):=Lib.hid (by omega)
          go_wp2
          go_quiet (fail)
          go_wp2
          go_roundw
          case rel=>exact ⟨k,by omega,by go_num,hag.down E.out,below_drewN hbw' _⟩
          case measure=>simp [intOf]
 · have hne:((p:Int) != (q:Int))=true:=by simp;omega
   rcases Nat.lt_or_ge p q with h | h
   · rw [cmpN_lt (cn_vs_lt (by omega) HX.out cb h)]
     go_enter Tryz.func115,Tryz.ntmps115
     go_wp2_with fail
     go_ret
     exact ⟨rfl,Below.refl _ _⟩
   · have h:q < p:=by omega
     have h':¬ p < q:=by omega
     rw [cmpN_gt (cn_vs_lt (by omega) HY.out ca h)]
     go_enter Tryz.func115,Tryz.ntmps115
     go_wp2_with fail
     go_ret
     exact ⟨rfl,Below.refl _ _⟩
def TruePost (w:World) (e:Ending) (w':World):Prop:=e=.returned (.bool true)∧Below w.heap.size w w'
set_option maxHeartbeats 400000 in
theorem same_any (A B:Option Addr) (n c d:Nat) (x y:Nat→Nat) (w:World) (ha:Sl w A n c x) (hb:Sl w B n d y) (hn:n≤1000000) (he:∀ j,j < n→x j=y j) :
 Calls Tryz.prog 95 #[.slice A n c,.slice B n d] w (TruePost w):=by
 have HE:=Lib.hid he
 clear he
 go_enter Tryz.func95,Tryz.ntmps95
 go_wp2_with fail
 go_loopw [5] (fun i wr=>∃ k:Nat,k≤n∧i=.int .i64 (k:Int)∧Below w.heap.size w wr) (fun i _=>n-(intOf i).toNat)
 case atStart=>exact ⟨0,Nat.zero_le _,rfl,Below.refl _ _⟩
 case round =>
  obtain ⟨k,hk,rfl,hbw⟩:=hrel
  by_cases hlt:k < n
  · obtain ⟨ad,rfl,hb1,hx64,hc1⟩:=(ha.below hbw).at_ hlt
    obtain ⟨bd,rfl,hb2,hy64,hc2⟩:=(hb.below hbw).at_ hlt
    rw [← HE.out k hlt] at hc2
    have hne:((x k:Int) != (x k:Int))=false:=by simp
    go_wp2
    go_quiet (fail)
    go_wp2
    go_roundw
    case rel=>exact ⟨k+1,by omega,by go_num,below_drewN hbw _⟩
    case measure=>simp [intOf];omega
  · go_wp2
    go_ret
    exact ⟨rfl,hbw⟩
theorem same_num {v u:Value} {V:Nat} (w:World) (h1:Num w v V) (h2:Num w u V) (K:Nat) (hK:K≤1000000) (hV:V < B64^K):Calls Tryz.prog 95 #[v,u] w (TruePost w):=by
 obtain ⟨A,n,c,f,rfl,s1,c1,e1⟩:=h1
 obtain ⟨B,m,d,g,rfl,s2,c2,e2⟩:=h2
 obtain ⟨rfl,he⟩:=canon_eq B64_gt s1.small s2.small c1 c2 (e1.trans e2.symm)
 exact same_any A B n c d f g w s1 s2 (Nat.le_trans (cn_le B64_gt c1 (by rw [e1];exact hV)) hK) he
set_option maxHeartbeats 400000 in
theorem rtrim_any (A:Option Addr) (n c:Nat) (f:Nat→Nat) (w:World) (h:Sl w A n c f) (hn:n≤1000000) :
 Calls Tryz.prog 149 #[.slice A n c] w (NumPost w (vs B64 f n)):=by
 have hcap:=h.cap
 go_enter Tryz.func149,Tryz.ntmps149
 go_wp2
 go_loop [3] (fun i=>∃ k:Nat,k≤n∧i=.int .i64 k∧Hid (tl f k=tl f n)) (fun i=>(intOf i).toNat)
 case atStart=>exact ⟨n,Nat.le_refl _,rfl,rfl⟩
 case round =>
  obtain ⟨k,hk,rfl,ht⟩:=hrel
  by_cases hstop:k=0∨∃ m,k=m+1∧f m≠0
  · have htk:tl f k=k:=by
     rcases hstop with rfl | ⟨m,rfl,h0⟩
     · rfl
     · show (if _ then _ else _)=_;rw [if_neg h0]
    have hown:=Own.empty 51 w w.heap.size f (Nat.le_refl _)
    have s1:=(h.take hk).alloc (.cells #[] 51)
    have fin:∀ (v1:Value) (w1:World),Own 51 w1 w.heap.size v1 (0+k) (cat f 0 f)→(∀ B w0,B≤w.heap.size→Below B w0 (w.alloc (.cells #[] 51))→Below B w0 w1)→Num w1 v1 (vs B64 f n)∧Below w.heap.size w w1:=by
     intro v1 w1 hown1 hbel
     obtain ⟨A2,c2,rfl,s2,_⟩:=hown1.sl
     have e0:∀ j,cat f 0 f j=f j:=fun j=>by simp [cat]
     refine ⟨⟨A2,0+k,c2,f,rfl,s2.congr fun j _=>e0 j,?_,?_⟩,hbel _ _ (Nat.le_refl _) ((Below.refl _ _).alloc (Nat.le_refl _) _)⟩
     · rw [Nat.zero_add,← htk,ht.out];exact tl_cn f n
     · rw [Nat.zero_add,← htk,ht.out];exact vs_tl _ f n
    have FIN:=Lib.hid fin
    clear fin htk
    rcases hstop with rfl | ⟨m,rfl,h0⟩
    · go_wp2_with (at_builtin;refine wpList_append_words rfl (.tmp 18) (.tmp 21) 22 rfl w.heap.size 51 Tryz.underlying22 info64 _ 0 f rfl hown A 0 c f rfl s1 (by omega) (by simp) ?_;intro v1 w1 hown1 hbel)
      go_ret
      exact ⟨v1,rfl,FIN.out v1 w1 hown1 hbel⟩
    · obtain ⟨ad,rfl,hb,hx64,hcell⟩:=h.at_ (k:=m) (by omega)
      have hne:((f m:Int) == 0)=false:=by simp;omega
      go_wp2_with (at_builtin;refine wpList_append_words rfl (.tmp 18) (.tmp 21) 22 rfl w.heap.size 51 Tryz.underlying22 info64 _ 0 f rfl hown (some ad) (m+1) c f rfl s1 (by omega) (by simp) ?_;intro v1 w1 hown1 hbel)
      go_ret
      exact ⟨v1,rfl,FIN.out v1 w1 hown1 hbel⟩
  · obtain ⟨m,rfl⟩:∃ m,k=m+1:=⟨k-1,by omega⟩
    have h0:f m=0:=by
     rcases Nat.eq_zero_or_pos (f m) with h | h
     · exact h
     · exact absurd (.inr ⟨m,rfl,by omega⟩) hstop
    clear hstop
    obtain ⟨ad,rfl,hb,hx64,hcell⟩:=h.at_ (k:=m) (by omega)
    have hxd:Hid (tl f (m+1)=tl f m):=Lib.hid (by show (if _ then _ else _)=_;rw [if_pos h0])
    rw [h0] at hcell
    clear h0 hx64
    go_wp2
    go_round
    case rel=>exact ⟨m,by omega,by go_num,Lib.hid (by rw [← ht.out,hxd.out])⟩
    case measure=>simp [intOf]
end Go.Proofs.YtmbmohibpkepdaaGreatDoor
namespace Go.Proofs.YtmbmohibpkepdaaGreatDoor
open Go.ChangeShapes Go.WideShapes Go.ChangeAt Go.RowKit
theorem own:ownKnob Tryz.prog.godebug=none:=by kernel_rfl
theorem laidOut:laidOutB Tryz.prog=true:=by kernel_rfl
theorem cells64:Tryz.prog.cellsOf 51=1:=by kernel_rfl
end Go.Proofs.YtmbmohibpkepdaaGreatDoor
namespace Go.Proofs.YtmbmohibpkepdaaGreatDoor
open Go.RowKit
theorem sub64_run (x y b:Nat) (hx:x < B64) (hy:y < B64) (hb:b≤1) (w:World) :
 ∃ r d:Nat,r+(y+b)=x+d*B64∧r < B64∧d≤1 ∧
  (callFunc 170 #[.int .u64 x,.int .u64 y,.int .u64 b]).run Tryz.prog w=.ok (.value (.tuple #[.int .u64 (r:Int),.int .u64 (d:Int)])) w:=by
 refine ⟨(x+18446744073709551616-y-b)%18446744073709551616,if x < y+b then 1 else 0,?_,?_,?_,?_⟩
 · unfold B64 at *;split <;> omega
 · unfold B64;omega
 · split <;> omega
 · rw [run_callFunc_extern Tryz.func170 (by kernel_rfl) (by kernel_rfl) (by kernel_rfl) (e:=sub64Entry) (by kernel_rfl),run_sub64 x y b hb]
   rfl
def SubInv (t:TypeId) (D:Nat) (w wr:World) (g N off:Nat) (F F' y:Nat→Nat) (m k d:Nat):Prop :=
 d≤D∧Row t wr g N F'∧Only w wr g∧(∀ j,j < off∨off+k≤j→F' j=F j) ∧
  vs B64 (fun j=>F' (off+j)) k+vs B64 (fun j=>if j < m then y j else 0) k=vs B64 (fun j=>F (off+j)) k+d*B64^k
theorem step_sub {V S Y c b n s y r d:Nat} (h:V+Y=S+c*b^n) (hr:r+(y+c)=s+d*b):V+r*b^n+(Y+y*b^n)=S+s*b^n+d*b^(n+1):=by
 have h1:(r+(y+c))*b^n=(s+d*b)*b^n:=by rw [hr]
 rw [Nat.add_mul,Nat.add_mul,Nat.add_mul] at h1
 have h2:d*b^(n+1)=d*b*b^n:=by rw [Nat.pow_succ];ac_rfl
 omega
section
variable {t:TypeId} {w wr:World} {g N off:Nat} {F F' y:Nat→Nat} {m k d D:Nat}
theorem SubInv.start (h:Row t w g N F):SubInv t D w w g N off F F y m 0 0:=⟨Nat.zero_le _,h,Only.refl _ _,fun _ _=>rfl,by simp [vs_zero]⟩
theorem SubInv.step (h:SubInv t D w wr g N off F F' y m k d) {r d':Nat} (hr:r+((if k < m then y k else 0)+d)=F (off+k)+d'*B64) (h1:r < B64) (h2:d'≤D) :
 SubInv t D w (wr.setCell ⟨g,off+k,none⟩ (.int .u64 ((r:Nat):Int))) g N off F (upd F' (off+k) r) y m (k+1) d':=by
 obtain ⟨_,hrow,hon,hag,hv⟩:=h
 refine ⟨h2,hrow.set_ _ _ h1,hon.set_ _ _,fun j hj=>?_,?_⟩
 · rw [upd_other _ _ _ _ (by omega)];exact hag j (by omega)
 · rw [vs_succ,vs_succ,vs_succ,upd_same]
   have e:vs B64 (fun j=>upd F' (off+k) r (off+j)) k=vs B64 (fun j=>F' (off+j)) k:=vs_congr fun j hj=>upd_other _ _ _ _ (by omega)
   rw [e]
   exact step_sub hv hr
theorem SubInv.rest (h:SubInv t D w wr g N off F F' y m k 0) (hm:m≤k) (i:Nat):SubInv t D w wr g N off F F' y m (k+i) 0:=by
 induction i with
 | zero=>exact h
 | succ i ih =>
  obtain ⟨_,hrow,hon,hag,hv⟩:=ih
  refine ⟨Nat.zero_le _,hrow,hon,fun j hj=>h.2.2.2.1 j (by omega),?_⟩
  rw [← Nat.add_assoc,vs_succ,vs_succ,vs_succ,if_neg (by omega),h.2.2.2.1 (off+(k+i)) (by omega)]
  simp only [Nat.zero_mul,Nat.add_zero] at hv ⊢
  omega
end
def SubPost (t:TypeId) (w:World) (g N off n:Nat) (F y:Nat→Nat) (m:Nat) (e:Ending) (w':World):Prop :=
 e=.returned (.tuple #[])∧∃ F' d,SubInv t 1 w w' g N off F F' y m n d
set_option maxHeartbeats 400000 in
theorem subFrom_any (g off n c N:Nat) (F:Nat→Nat) (A:Option Addr) (m cb:Nat) (y:Nat→Nat) (w:World) (hr:Row 51 w g N F) (hoff:off+n≤N) (hN:N≤1000000)
 (hy:Sl w A m cb y) (hmn:m≤n) (hne:0 < m→∀ ad,A=some ad→ad.block≠g) :
 Calls Tryz.prog 133 #[.slice (some ⟨g,off,none⟩) n c,.slice A m cb] w (SubPost 51 w g N off n F y m):=by
 go_enter Tryz.func133,Tryz.ntmps133
 go_wp2
 go_loopw [4,10] (fun cy i wr=>∃ k d F',k≤m∧i=.int .i64 ((k:Nat):Int)∧cy=.int .u64 ((d:Nat):Int)∧SubInv 51 1 w wr g N off F F' y m k d) (fun _ i _=>m-(intOf i).toNat)
 case atStart=>exact ⟨0,0,F,Nat.zero_le _,rfl,rfl,SubInv.start hr⟩
 case round =>
  obtain ⟨k,d,F',hk,rfl,rfl,hinv⟩:=hrel
  by_cases hlt:k < m
  · obtain ⟨ad,rfl,hb,hx64,hcell⟩:=(hy.only hinv.2.2.1 hne).at_ hlt
    have hrc:=hinv.2.1.cell (i:=off+k) (by omega)
    have hrf:=hinv.2.1.frozen (off+k)
    have hF:Hid (F' (off+k)=F (off+k)):=hinv.2.2.2.1 _ (by omega)
    have hFs:=hinv.2.1.2 (off+k) (by omega)
    obtain ⟨r,d',h1,h2,h3,h4⟩:=sub64_run (F' (off+k)) (y k) d hFs hx64 hinv.1 wr
    have H1:=Lib.hid h1
    clear h1
    go_wp2
    go_roundw
    case rel=>exact ⟨k+1,d',upd F' (off+k) r,by omega,by go_num,rfl,hinv.step (by rw [← hF.out,if_pos hlt];exact H1.out) h2 h3⟩
    case measure=>simp [intOf];omega
  · obtain rfl:k=m:=by omega
    clear hlt hk
    go_wp2
    go_loopw [4,7] (fun cy i wr=>∃ q d F',k≤q∧q≤n∧i=.int .i64 ((q:Nat):Int)∧cy=.int .u64 ((d:Nat):Int)∧SubInv 51 1 w wr g N off F F' y k q d) (fun _ i _=>n-(intOf i).toNat)
    case atStart=>exact ⟨k,d,F',Nat.le_refl _,hmn,rfl,rfl,hinv⟩
    case round =>
     clear hinv
     obtain ⟨q,d,F',hq,hqn,rfl,rfl,hinv⟩:=hrel
     by_cases hlt:q < n
     · by_cases hd:d=0
       · subst hd
         go_wp2
         go_end0
         exact ⟨rfl,F',0,by have:=hinv.rest hq (n-q);rwa [Nat.add_sub_cancel' hqn] at this⟩
       · have hdn:((d:Int) != 0)=true:=by simp;omega
         have hrc:=hinv.2.1.cell (i:=off+q) (by omega)
         have hrf:=hinv.2.1.frozen (off+q)
         have hF:Hid (F' (off+q)=F (off+q)):=hinv.2.2.2.1 _ (by omega)
         have hFs:=hinv.2.1.2 (off+q) (by omega)
         obtain ⟨r,d',h1,h2,h3,h4⟩:=sub64_run (F' (off+q)) 0 d hFs B64_pos hinv.1 wr
         rw [show ((0:Nat):Int)=0 from rfl] at h4
         have H1:=Lib.hid h1
         clear h1
         go_wp2
         go_roundw
         case rel=>exact ⟨q+1,d',upd F' (off+q) r,by omega,by omega,by go_num,rfl,hinv.step (by rw [← hF.out,if_neg (by omega)];exact H1.out) h2 h3⟩
         case measure=>simp [intOf];omega
     · obtain rfl:q=n:=by omega
       go_wp2
       go_end0
       exact ⟨rfl,F',d,hinv⟩
end Go.Proofs.YtmbmohibpkepdaaGreatDoor
namespace Go.Proofs.YtmbmohibpkepdaaGreatDoor
open Go.RowKit
theorem sub_end {n m d:Nat} {F F' y:Nat→Nat} (h:vs B64 F' n+vs B64 y m=vs B64 F n+d*B64^n) (hF:∀ j,j < n→F' j < B64) (hle:vs B64 y m≤vs B64 F n):vs B64 F' n=vs B64 F n-vs B64 y m:=by
 have h1:=vs_lt hF
 rcases Nat.eq_zero_or_pos d with h0 | h0
 · subst h0;omega
 · have h2:1*B64^n≤d*B64^n:=Nat.mul_le_mul_right _ h0
   omega
def NumOkPost (w:World) (V:Nat) (e:Ending) (w':World):Prop:=∃ v,e=.returned (.tuple #[v,.bool true])∧Num w' v V∧Below w.heap.size w w'
def NoPost (w:World) (e:Ending) (w':World):Prop:=e=.returned (.tuple #[.slice none 0 0,.bool false])∧Below w.heap.size w w'
set_option maxHeartbeats 400000 in
theorem sub_no (A B:Option Addr) (n m c d:Nat) (x y:Nat→Nat) (w:World) (ha:Sl w A n c x) (hb:Sl w B m d y) (hn:n≤1000000) (hm:m≤1000000) (hlt:vs B64 x n < vs B64 y m) :
 Calls Tryz.prog 74 #[.slice A n c,.slice B m d] w (NoPost w):=by
 obtain ⟨A1,c1,e1,s1⟩:=viewV_sl ha
 obtain ⟨B1,d1,e2,s2⟩:=viewV_sl hb
 have l1:=tl_le x n
 have l2:=tl_le y m
 have V1:=view_raw A n c x w ha (by omega)
 have V2:=view_raw B m d y w hb (by omega)
 rw [e1] at V1
 rw [e2] at V2
 rw [← vs_tl B64 x n,← vs_tl B64 y m] at hlt
 clear e1 e2
 generalize tl x n=p at *
 generalize tl y m=q at *
 have V3:=cmp_any A1 B1 p q c1 d1 x y w s1 s2 (by omega) (by omega)
 rw [cmpN_lt hlt] at V3
 have H1:=Lib.hid V1
 have H2:=Lib.hid V2
 have H3:=Lib.hid V3
 clear V1 V2 V3
 go_enter Tryz.func74,Tryz.ntmps74
 go_wp2_with fail
 refine H1.out.mono ?_
 rintro e w' ⟨rfl,rfl⟩
 go_wp2_with fail
 refine H2.out.mono ?_
 rintro e w' ⟨rfl,rfl⟩
 go_wp2_with fail
 refine H3.out.mono ?_
 rintro e w1 ⟨rfl,hb1⟩
 go_wp2_with fail
 go_ret2
 exact ⟨rfl,hb1⟩
set_option maxHeartbeats 400000 in
theorem sub_yes (A B:Option Addr) (n m c d:Nat) (x y:Nat→Nat) (w:World) (ha:Sl w A n c x) (hb:Sl w B m d y) (hn:n≤1000000) (hm:m≤1000000) (hle:vs B64 y m≤vs B64 x n) :
 Calls Tryz.prog 74 #[.slice A n c,.slice B m d] w (NumOkPost w (vs B64 x n-vs B64 y m)):=by
 obtain ⟨A1,c1,e1,s1⟩:=viewV_sl ha
 obtain ⟨B1,d1,e2,s2⟩:=viewV_sl hb
 have l1:=tl_le x n
 have l2:=tl_le y m
 have V1:=view_raw A n c x w ha (by omega)
 have V2:=view_raw B m d y w hb (by omega)
 have cy:=tl_cn y m
 rw [e1] at V1
 rw [e2] at V2
 rw [← vs_tl B64 x n,← vs_tl B64 y m] at hle ⊢
 clear e1 e2
 generalize tl x n=p at *
 generalize tl y m=q at *
 have hqp:q≤p:=cn_le B64_gt cy (Nat.lt_of_le_of_lt hle (vs_lt s1.small))
 have V3:=cmp_any A1 B1 p q c1 d1 x y w s1 s2 (by omega) (by omega)
 obtain ⟨r,hr0,hr1⟩:∃ r:Nat,cmpN (vs B64 x p) (vs B64 y q)=(r:Int)∧r≤1:=by
  rcases Nat.lt_or_ge (vs B64 y q) (vs B64 x p) with h | h
  · exact ⟨1,by rw [cmpN_gt h];rfl,by omega⟩
  · exact ⟨0,by rw [Nat.le_antisymm h hle,cmpN_eq];rfl,by omega⟩
 rw [hr0] at V3
 clear hr0
 have H1:=Lib.hid V1
 have H2:=Lib.hid V2
 have H3:=Lib.hid V3
 clear V1 V2 V3
 have hmk:∀ u:World,(Instr.makeSlice 22 (.int .i64 (p:Int)) (.int .i64 (p:Int))).run Tryz.prog u =
  .ok (.slice (some ⟨u.heap.size,0,none⟩) p p) (u.alloc (.cells (madeCells #[.int .u64 0] p) 51)):=fun u=>make_run p (by omega) u
 go_enter Tryz.func74,Tryz.ntmps74
 go_wp2_with fail
 refine H1.out.mono ?_
 rintro e w' ⟨rfl,rfl⟩
 go_wp2_with fail
 refine H2.out.mono ?_
 rintro e w' ⟨rfl,rfl⟩
 go_wp2_with fail
 refine H3.out.mono ?_
 rintro e w1 ⟨rfl,hb1⟩
 have hrow:=Row.made 51 w1 p
 have s1':=s1.below hb1
 have s2':=s2.below hb1
 go_wp2_with (with_reducible refine wpList_copy_words rfl (.tmp 18) (.tmp 19) 22 rfl 51 Tryz.underlying22 size64 51 w1.heap.size p p p _ A1 p c1 x rfl rfl hrow (Nat.le_refl _) (s1'.alloc _) (Nat.le_refl _) ?_;intro w2 hrow2 hon2)
 have hb2:Below w1.heap.size w1 w2:=Only.below ((Below.refl _ w1).alloc (Nat.le_refl _) _) hon2 (by simp) (Nat.le_refl _)
 refine (subFrom_any w1.heap.size 0 p p p _ B1 q d1 y w2 hrow2 (by omega) (by omega) (s2'.below hb2) hqp (s2'.far (Nat.le_refl _))).mono ?_
 rintro e w3 ⟨rfl,F',dd,hinv⟩
 have hb3:Below w1.heap.size w1 w3:=Only.below hb2 hinv.2.2.1 hb2.size (Nat.le_refl _)
 go_wp2_with fail
 refine (view_raw _ p p _ w3 (hinv.2.1.sl0 p p (Nat.le_refl _) (Nat.le_refl _)) (by omega)).mono ?_
 rintro e w5 ⟨rfl,rfl⟩
 go_wp2_with fail
 go_ret2
 refine ⟨_,rfl,?_,hb1.trans (hb3.mono hb1.size)⟩
 have hv:=viewV_num (hinv.2.1.sl0 p p (Nat.le_refl _) (Nat.le_refl _))
 have hs:=hinv.2.2.2.2
 simp only [Nat.zero_add] at hs
 rw [vs_pad _ _ _ _ hqp] at hs
 have e0:vs B64 (fun j=>if j < p then x j else 0) p=vs B64 x p:=vs_pad _ _ _ _ (Nat.le_refl _)
 rw [sub_end hs hinv.2.1.2 (by rw [e0];exact hle),e0] at hv
 exact hv
set_option maxHeartbeats 400000 in
theorem trim_any (A:Option Addr) (n c:Nat) (x:Nat→Nat) (w:World) (ha:Sl w A n c x) (hn:n≤1000000) :
 Calls Tryz.prog 194 #[.slice A n c] w (NumPost w (vs B64 x n)):=by
 obtain ⟨A1,c1,e1,s1⟩:=viewV_sl ha
 have l1:=tl_le x n
 have cx:=tl_cn x n
 have V1:=view_raw A n c x w ha (by omega)
 rw [e1] at V1
 rw [← vs_tl B64 x n]
 clear e1
 generalize tl x n=p at *
 have H1:=Lib.hid V1
 clear V1
 go_enter Tryz.func194,Tryz.ntmps194
 go_wp2_with fail
 refine H1.out.mono ?_
 rintro e w' ⟨rfl,rfl⟩
 go_wp2_with (at_builtin;refine wpList_append_words rfl (.const (.slice none 0 0)) (.tmp 4) 22 rfl w.heap.size 51 Tryz.underlying22 info64 _ 0 x rfl (Own.nil _ _ _ _) A1 p c1 x rfl s1 (by omega) (Nat.le_refl _) ?_;intro v1 w1 hown hbel)
 obtain ⟨A2,c2,rfl,s2,_⟩:=hown.sl
 go_wp2_with fail
 go_ret
 have e0:∀ j,cat x 0 x j=x j:=fun j=>by simp [cat]
 refine ⟨_,rfl,⟨A2,0+p,c2,x,rfl,s2.congr fun j _=>e0 j,?_,by rw [Nat.zero_add]⟩,hbel _ _ (Nat.le_refl _) (Below.refl _ _)⟩
 rw [Nat.zero_add];exact cx
end Go.Proofs.YtmbmohibpkepdaaGreatDoor
