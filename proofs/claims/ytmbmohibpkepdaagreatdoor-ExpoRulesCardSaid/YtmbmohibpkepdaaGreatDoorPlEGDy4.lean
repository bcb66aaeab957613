/-
 dyad.Sum: the sum of a list of dyads.
-/
import Derived.RegionTactic
import Derived.Test.YtmbmohibpkepdaaGreatDoorPlEGDy3
namespace Go.Proofs.YtmbmohibpkepdaaGreatDoor
open Go.RowKit
theorem zeros_vs (k:Nat):vs B64 (fun _=>0) k=0:=by
 induction k with
 | zero=>rfl
 | succ k ih=>rw [vs_succ,ih,Nat.zero_mul]
def allP (l:DL):Nat→Bool
 | 0=>true
 | k+1=>allP l k && plainB (l.ng k) (l.n k) (l.x k) (l.e k)
theorem allP_true {l:DL} {k:Nat} (h:allP l k=true):∀ j,j < k→plainB (l.ng j) (l.n j) (l.x j) (l.e j)=true:=by
 induction k with
 | zero=>intro j hj;omega
 | succ k ih =>
  intro j hj
  simp only [allP,Bool.and_eq_true] at h
  rcases Nat.lt_or_ge j k with h1 | h1
  · exact ih h.1 j h1
  · obtain rfl:j=k:=by omega
    exact h.2
theorem allP_false {l:DL} {k j:Nat} (hj:j < k) (h:plainB (l.ng j) (l.n j) (l.x j) (l.e j)=false):allP l k=false:=by
 cases hp:allP l k with
 | false=>rfl
 | true=>rw [allP_true hp j hj] at h;cases h
structure F1 (w w1:World):Prop where
 bel:Below w.heap.size w w1
 kr:Blk3 w1 w.heap.size (.bool false) (.slice none 0 0) (.int .i64 0)
 sz:w.heap.size+1≤w1.heap.size
 tab0:Tab w
theorem F1.tab {w w1:World} (h:F1 w w1):Tab w1:=h.tab0.below h.bel
theorem F1.adv {w w1 w2:World} (h:F1 w w1) {B:Nat} (b:Below B w1 w2) (hB:w.heap.size+1≤B):F1 w w2:=by
 have h1:Below (w.heap.size+1) w1 w2:=b.mono hB
 exact ⟨h.bel.trans (h1.mono (by omega)),h.kr.below h1 (by omega),Nat.le_trans h.sz b.size,h.tab0⟩
theorem F1.start (w:World) (hT:Tab w):F1 w (w.alloc (.cells #[.bool false,.slice none 0 0,.int .i64 0] 24)):=by
 have b:Below w.heap.size w (w.alloc (.cells #[.bool false,.slice none 0 0,.int .i64 0] 24)):=(Below.refl _ w).alloc (Nat.le_refl _) _
 exact ⟨b,Blk3.made w _ _ _,by simp,hT⟩
set_option maxRecDepth 8000 in
set_option maxHeartbeats 4000000 in
theorem sum_any (L:Option Addr) (k cp:Nat) (l:DL) (w:World) (h:Ls w L k cp l) (hk:k≤1000) (hlen:∀ j,j < k→l.n j≤400000) (hT:Tab w) :
 Calls Tryz.prog 30 #[.slice L k cp] w (DPost w (sumD (allP l k) l k)):=by
 have S:=F1.start w hT
 have HLEN:=Lib.hid hlen
 clear hlen
 go_enter Tryz.func30,Tryz.ntmps30
 go_wp2_with fail
 generalize w.alloc (.cells #[.bool false,.slice none 0 0,.int .i64 0] 24)=w1 at *
 go_loopw [20] (fun s20 wr=>∃ j:Nat,j≤k∧s20=.int .i64 (j:Int)∧Hid (allP l j=true)∧F1 w wr) (fun s20 _=>k-(intOf s20).toNat)
 case atStart=>exact ⟨0,Nat.zero_le _,rfl,Lib.hid rfl,S⟩
 case round =>
  clear S
  obtain ⟨j,hj,rfl,hall,F⟩:=hrel
  by_cases hlt:j < k
  · obtain ⟨ad,rfl,hb,hc⟩:=h.2.1 (by omega)
    obtain ⟨c0,c1,c2⟩:=hc j hlt
    have d0:=(F.bel.cell (p:=ad.add (j*3)) (by rw [block_of_add];exact hb)).trans c0
    have d1:=(F.bel.cell (p:=⟨(ad.add (j*3)).block,(ad.add (j*3)).off+1,none⟩) (by simp only [block_of_add];exact hb)).trans c1
    have d2:=(F.bel.cell (p:=⟨(ad.add (j*3)).block,(ad.add (j*3)).off+2,none⟩) (by simp only [block_of_add];exact hb)).trans c2
    have sj:=(h.2.2 j hlt).below F.bel
    have hln:=HLEN.out j hlt
    have HS:Hid (allP l (j+1)=plainB (l.ng j) (l.n j) (l.x j) (l.e j)):=Lib.hid (by rw [allP,hall.out,Bool.true_and])
    have HNO:Hid (plainB (l.ng j) (l.n j) (l.x j) (l.e j)=false→sumD (allP l k) l k=DR.no):=Lib.hid (fun hp=>by rw [allP_false hlt hp];simp [sumD])
    clear c0 c1 c2 hc hall
    have bA:Below wr.heap.size wr (wr.alloc (.cells #[.bool (l.ng j),.slice (l.A j) (l.n j) (l.c j),.int .i64 (l.e j)] 24)):=(Below.refl _ wr).alloc (Nat.le_refl _) _
    have FA:=F.adv bA F.sz
    have PL:=Lib.hid (plain_any (l.ng j) (l.A j) (l.n j) (l.c j) (l.x j) (l.e j) _ (sj.below bA) hln)
    have szA:=FA.sz
    go_wp2_with fail
    refine PL.out.mono ?_
    rintro e' w2 ⟨rfl,b⟩
    have F2':=FA.adv b szA
    clear b PL bA FA sj d0 d1 d2 F szA
    obtain ⟨p,hp⟩:∃ p,Hid (plainB (l.ng j) (l.n j) (l.x j) (l.e j)=p):=⟨_,Lib.hid rfl⟩
    rw [hp.out] at HS HNO ⊢
    cases p
    · have HN:=Lib.hid (HNO.out rfl)
      obtain ⟨cr0,cr1,cr2⟩:=F2'.kr.cell
      obtain ⟨fr0,fr1,fr2⟩:=F2'.kr.frozen
      go_wp2_with fail
      rw [HN.out]
      refine bodyPost_ret (v:=.tuple #[.agg #[.bool false,.slice none 0 0,.int .i64 0],.bool false]) (by simp [results,Tryz.results30,go_sem,cr0,cr1,cr2]) rfl ⟨_,rfl,num_nil _,below_put3 F2'.bel (by omega) F2'.bel.size _ _ _⟩
    · go_wp2_with fail
      go_roundw
      case rel=>exact ⟨j+1,by omega,by go_num,HS,F2'⟩
      case measure=>simp [intOf];omega
  · obtain rfl:j=k:=by omega
    clear hlt
    have hP:∀ i,i < j→PlainF (l.ng i) (l.n i) (l.x i) (l.e i):=fun i hi=>plain_facts (allP_true hall.out i hi)
    have EX:=Lib.hid (extent_any L j cp l wr (h.below F.bel) hk hP)
    have HP:=Lib.hid hP
    clear hP
    go_wp2_with fail
    refine EX.out.mono ?_
    rintro e' w2 ⟨lo,hi,en,fd,rfl,hE,b⟩
    have F2':=F.adv b F.sz
    clear b F EX
    obtain ⟨g1,g2,g3,g4⟩:=hE.out.bound HP.out
    have g5:=hE.out.en
    have HLO:=Lib.hid hE.out.lohi
    by_cases hfar:hi-lo≤262144
    · have HYES:Hid (sumD (allP l j) l j=if part l true lo j≤part l false lo j then mkD false (part l false lo j-part l true lo j) lo else mkD true (part l true lo j-part l false lo j) lo):=Lib.hid (by
       unfold sumD;rw [hall.out,← HLO.out.1,← HLO.out.2];simp [hfar])
      obtain ⟨R,hR⟩:∃ R:Nat,(en-lo)/64=(R:Int):=⟨((en-lo)/64).toNat,by omega⟩
      have hR5:R≤5000:=by omega
      have hRN:=Lib.hid (show (en-lo).toNat/64+3=R+3 by omega)
      have hmk:∀ u:World,(Instr.makeSlice 22 (.int .i64 ((R:Int)+3)) (.int .i64 ((R:Int)+3))).run Tryz.prog u =
       .ok (.slice (some ⟨u.heap.size,0,none⟩) (R+3) (R+3)) (u.alloc (.cells (madeCells #[.int .u64 0] (R+3)) 51)):=fun u=>make_run (R+3) (by omega) u
      go_wp2_with fail
      clear hR
      have r51:=(Row.made 51 w2 (R+3)).alloc (.cells (madeCells #[.int .u64 0] (R+3)) 51)
      have r52:=Row.made 51 (w2.alloc (.cells (madeCells #[.int .u64 0] (R+3)) 51)) (R+3)
      rw [show (w2.alloc (.cells (madeCells #[.int .u64 0] (R+3)) 51)).heap.size=w2.heap.size+1 by simp] at r52
      have b5':Below w2.heap.size w2 ((w2.alloc (.cells (madeCells #[.int .u64 0] (R+3)) 51)).alloc (.cells (madeCells #[.int .u64 0] (R+3)) 51)):=((Below.refl _ w2).alloc (Nat.le_refl _) _).alloc (by simp) _
      have sz5':w2.heap.size+2≤((w2.alloc (.cells (madeCells #[.int .u64 0] (R+3)) 51)).alloc (.cells (madeCells #[.int .u64 0] (R+3)) 51)).heap.size:=by simp
      replace r51:=r51.drew
      replace r52:=r52.drew
      have b5:=b5'.drew
      have sz5:w2.heap.size+2≤((w2.alloc (.cells (madeCells #[.int .u64 0] (R+3)) 51)).alloc (.cells (madeCells #[.int .u64 0] (R+3)) 51)).drew.heap.size:=sz5'
      clear b5' sz5'
      go_region
      all_goals generalize ((w2.alloc (.cells (madeCells #[.int .u64 0] (R+3)) 51)).alloc (.cells (madeCells #[.int .u64 0] (R+3)) 51)).drew=w5 at *
      ·
       have ra:Row 51 w5 (w2.heap.size) (R+3) (fun _=>0):=r51
       have rb:Row 51 w5 (w2.heap.size+1) (R+3) (fun _=>0):=r52
       have hga:w2.heap.size≤w2.heap.size:=by omega
       have hgb:w2.heap.size≤w2.heap.size+1:=by omega
       have hab:w2.heap.size≠w2.heap.size+1:=by omega
       clear r51 r52
       go_wp2_with fail
       go_loopw [51] (fun s51 wr=>∃ (i:Nat) (Fa Fb:Nat→Nat),i≤j∧s51=.int .i64 (i:Int)∧Row 51 wr (w2.heap.size) (R+3) Fa∧Row 51 wr (w2.heap.size+1) (R+3) Fb∧Below w2.heap.size w2 wr∧w2.heap.size+2≤wr.heap.size∧Hid (vs B64 Fa (R+3)=part l false lo i)∧Hid (vs B64 Fb (R+3)=part l true lo i)) (fun s51 _=>j-(intOf s51).toNat)
       case atStart=>exact ⟨0,_,_,Nat.zero_le _,rfl,ra,rb,b5,sz5,Lib.hid (zeros_vs _),Lib.hid (zeros_vs _)⟩
       case round =>
        clear ra rb b5 sz5
        obtain ⟨i,Fa,Fb,hi',rfl,ra,rb,b,szw,hFa,hFb⟩:=hrel
        by_cases hlt:i < j
        · obtain ⟨ad,rfl,hb,hc⟩:=h.2.1 (by omega)
          obtain ⟨c0,c1,c2⟩:=hc i hlt
          have bAll:=F2'.bel.trans (b.mono F2'.bel.size)
          have d0:=(bAll.cell (p:=ad.add (i*3)) (by rw [block_of_add];exact hb)).trans c0
          have d1:=(bAll.cell (p:=⟨(ad.add (i*3)).block,(ad.add (i*3)).off+1,none⟩) (by simp only [block_of_add];exact hb)).trans c1
          have d2:=(bAll.cell (p:=⟨(ad.add (i*3)).block,(ad.add (i*3)).off+2,none⟩) (by simp only [block_of_add];exact hb)).trans c2
          have sj:=(h.2.2 i hlt).below bAll
          have P:=HP.out i hlt
          have pl:=P.len
          have hPos:=Lib.hid P.pos
          have FIT:Hid (∀ sg,part l sg lo (i+1) < B64^(R+3)):=Lib.hid (fun sg=>part_fits hE.out hk sg (by omega) hRN.out)
          have HIT:Hid (l.n i≠0→lo≤l.e i∧l.e i≤hi∧l.e i+(nb (l.v i):Int)≤en):=Lib.hid (fun h0=>hE.out.item hlt h0)
          have hv:Hid (l.v i=vs B64 (l.x i) (l.n i)):=Lib.hid rfl
          have HPa':Hid (∀ t,(l.e i-lo).toNat=t→part l false lo (i+1)=part l false lo i+(if l.ng i=false then l.v i*2^t else 0)):=Lib.hid (fun t ht=>by rw [part,ht])
          have HPb':Hid (∀ t,(l.e i-lo).toNat=t→part l true lo (i+1)=part l true lo i+(if l.ng i=true then l.v i*2^t else 0)):=Lib.hid (fun t ht=>by rw [part,ht])
          clear c0 c1 c2 hc P bAll
          generalize l.v i=V at *
          generalize l.ng i=ng at *
          generalize l.A i=A at *
          generalize l.n i=n at *
          generalize l.c i=c at *
          generalize l.x i=x at *
          generalize l.e i=e at *
          have bA:Below wr.heap.size wr (wr.alloc (.cells #[.bool ng,.slice A n c,.int .i64 e] 24)):=(Below.refl _ wr).alloc (Nat.le_refl _) _
          have kA:=Blk3.made wr (.bool ng) (.slice A n c) (.int .i64 e)
          have hgs:wr.heap.size < (wr.alloc (.cells #[.bool ng,.slice A n c,.int .i64 e] 24)).heap.size:=by simp
          have SG:=Lib.hid (sign_any ng A n c e (wr.alloc (.cells #[.bool ng,.slice A n c,.int .i64 e] 24)) (by omega))
          go_wp2_with fail
          refine SG.out.mono ?_
          rintro e' w4 ⟨rfl,b'⟩
          have b14:=bA.trans (b'.mono bA.size)
          have b4:=b.trans (b14.mono b.size)
          have sz4:w2.heap.size+2≤w4.heap.size:=Nat.le_trans szw b14.size
          have s4:=sj.below b14
          obtain ⟨q0,q1,q2⟩:=(kA.below b' hgs).cell
          have ra4:=ra.below b14 ra.lt
          have rb4:=rb.below b14 rb.lt
          clear b' SG kA bA b14 sj d0 d1 d2 hgs ra rb b szw
          by_cases hn0:n=0
          · have hV0:Hid (V=0):=Lib.hid (by rw [hv.out,hn0,vs_zero])
            have HA:Hid (vs B64 Fa (R+3)=part l false lo (i+1)):=Lib.hid (by rw [hFa.out,HPa'.out _ rfl,hV0.out,Nat.zero_mul];simp)
            have HB:Hid (vs B64 Fb (R+3)=part l true lo (i+1)):=Lib.hid (by rw [hFb.out,HPb'.out _ rfl,hV0.out,Nat.zero_mul];simp)
            rw [show sgn n ng=0 by simp [sgn,hn0]]
            go_wp2_with fail
            go_roundw
            case rel=>exact ⟨i+1,Fa,Fb,by omega,by go_num,ra4,rb4,b4,sz4,HA,HB⟩
            case measure=>simp [intOf];omega
          · obtain ⟨t1,t2,t3⟩:=HIT.out hn0
            obtain ⟨t,ht⟩:∃ t:Nat,e-lo=(t:Int):=⟨(e-lo).toNat,by omega⟩
            have ht5:t≤5000000:=by omega
            have HV0:Hid (0 < vs B64 x n):=Lib.hid (hPos.out.1 (by omega))
            have HPa:=Lib.hid (HPa'.out t (by omega))
            have HPb:=Lib.hid (HPb'.out t (by omega))
            clear HIT t1 t2 t3 hPos HPa' HPb'
            cases ng
            · rw [show sgn n false=1 by simp [sgn,hn0]]
              simp only [if_true,Bool.false_eq_true,if_false,Nat.add_zero] at HPa HPb
              have HT2:Hid (vs B64 Fa (R+3)+vs B64 x n*2^t < B64^(R+3)):=Lib.hid (by rw [hFa.out,← hv.out,← HPa.out];exact FIT.out false)
              have AD:=Lib.hid (addAt_any (w2.heap.size) (R+3) Fa A n c x t w4 ra4 (by omega) s4 (by omega) (by omega) HT2.out HV0.out)
              go_wp2_with fail
              refine AD.out.mono ?_
              rintro e' w6 ⟨rfl,F',r6,o6,hv6⟩
              have b6:Below w2.heap.size w2 w6:=Only.below b4 o6 b4.size hga
              have ro6:=rb4.other o6 (Ne.symm hab)
              have sz6:w2.heap.size+2≤w6.heap.size:=Nat.le_trans sz4 o6.size
              clear AD ra4 rb4 o6 s4 b4 q0 q1 q2
              go_wp2_with fail
              go_roundw
              case rel=>exact ⟨i+1,F',Fb,by omega,by go_num,r6,ro6,b6,sz6,Lib.hid (by rw [hv6.out,hFa.out,HPa.out,hv.out]),Lib.hid (by rw [hFb.out,HPb.out])⟩
              case measure=>simp [intOf];omega
            · rw [show sgn n true=-1 by simp [sgn,hn0]]
              simp only [if_true,Bool.true_eq_false,if_false,Nat.add_zero] at HPa HPb
              have HT2:Hid (vs B64 Fb (R+3)+vs B64 x n*2^t < B64^(R+3)):=Lib.hid (by rw [hFb.out,← hv.out,← HPb.out];exact FIT.out true)
              have AD:=Lib.hid (addAt_any (w2.heap.size+1) (R+3) Fb A n c x t w4 rb4 (by omega) s4 (by omega) (by omega) HT2.out HV0.out)
              go_wp2_with fail
              refine AD.out.mono ?_
              rintro e' w6 ⟨rfl,F',r6,o6,hv6⟩
              have b6:Below w2.heap.size w2 w6:=Only.below b4 o6 b4.size hgb
              have ro6:=ra4.other o6 hab
              have sz6:w2.heap.size+2≤w6.heap.size:=Nat.le_trans sz4 o6.size
              clear AD rb4 ra4 o6 s4 b4 q0 q1 q2
              go_wp2_with fail
              go_roundw
              case rel=>exact ⟨i+1,Fa,F',by omega,by go_num,ro6,r6,b6,sz6,Lib.hid (by rw [hFa.out,HPa.out]),Lib.hid (by rw [hv6.out,hFb.out,HPb.out,hv.out])⟩
              case measure=>simp [intOf];omega
        · obtain rfl:i=j:=by omega
          have sa:=ra.sl0 (R+3) (R+3) (Nat.le_refl _) (Nat.le_refl _)
          have sb:=rb.sl0 (R+3) (R+3) (Nat.le_refl _) (Nat.le_refl _)
          have Fw:=F2'.adv b F2'.sz
          have szF:=Fw.sz
          have KA:=Lib.hid (vs_lt sa.small)
          have KB:=Lib.hid (vs_lt sb.small)
          by_cases hle:part l true lo i≤part l false lo i
          · have HARM:=Lib.hid (if_pos hle:(if part l true lo i≤part l false lo i then mkD false (part l false lo i-part l true lo i) lo else mkD true (part l true lo i-part l false lo i) lo)=_)
            have SB:=sub_yes (some ⟨w2.heap.size,0,none⟩) (some ⟨w2.heap.size+1,0,none⟩) (R+3) (R+3) (R+3) (R+3) Fa Fb wr sa sb (by omega) (by omega) (by rw [hFa.out,hFb.out];exact hle)
            have KD:Hid (vs B64 Fa (R+3)-vs B64 Fb (R+3) < B64^(R+3)):=Lib.hid (by have:=KA.out;omega)
            have HSB:=Lib.hid SB
            clear SB hle
            go_wp2_with fail
            refine HSB.out.mono ?_
            rintro e' w7 ⟨v7,rfl,n7,b7⟩
            have F7:=Fw.adv b7 szF
            obtain ⟨A7,p7,c7,f7,rfl,q7,lp7,_,e7⟩:=n7.sl' KD.out
            rw [hFa.out,hFb.out] at e7
            have E7:=Lib.hid e7
            clear e7 n7 b7 HSB Fw sa sb ra rb b szw szF
            have MK:=make_any false A7 p7 c7 f7 lo w7 q7 (by omega) F7.tab (by omega) (by omega)
            rw [E7.out] at MK
            have HMK:=Lib.hid MK
            clear MK
            have sz7:=F7.sz
            go_wp2_with fail
            refine HMK.out.mono ?_
            rintro e' w9 ⟨v9,rfl,n9,b9⟩
            have F9:=F7.adv b9 sz7
            obtain ⟨cF0,cF1,cF2⟩:=F9.kr.cell
            obtain ⟨fF0,fF1,fF2⟩:=F9.kr.frozen
            clear HMK b9 F7
            generalize mkD false (part l false lo i-part l true lo i) lo=r at *
            obtain ⟨A9,p9,c9,f9,rfl,m9⟩:=n9
            go_wp2_with fail
            rw [HYES.out,HARM.out]
            refine bodyPost_ret (v:=.tuple #[.agg #[.bool r.neg,.slice A9 p9 c9,.int .i64 r.e],.bool r.ok]) (by simp [results,Tryz.results30,go_sem,cF0,cF1,cF2]) rfl
             ⟨_,rfl,Num.put3 ⟨A9,p9,c9,f9,rfl,m9⟩ F9.kr (notU_bool _) (notU_slice _ _ _) (notU_int _) _ _ _,below_put3 F9.bel (by omega) F9.bel.size _ _ _⟩
          · have HARM:=Lib.hid (if_neg hle:(if part l true lo i≤part l false lo i then mkD false (part l false lo i-part l true lo i) lo else mkD true (part l true lo i-part l false lo i) lo)=_)
            have SB:=Lib.hid (sub_no (some ⟨w2.heap.size,0,none⟩) (some ⟨w2.heap.size+1,0,none⟩) (R+3) (R+3) (R+3) (R+3) Fa Fb wr sa sb (by omega) (by omega) (by rw [hFa.out,hFb.out];omega))
            have hle2:=Lib.hid (show vs B64 Fa (R+3)≤vs B64 Fb (R+3) by rw [hFa.out,hFb.out];omega)
            have KD:Hid (vs B64 Fb (R+3)-vs B64 Fa (R+3) < B64^(R+3)):=Lib.hid (by have:=KB.out;omega)
            clear hle
            go_wp2_with fail
            refine SB.out.mono ?_
            rintro e' w6 ⟨rfl,b6⟩
            have F6:=Fw.adv b6 szF
            have szF6:=F6.sz
            have SB2:=Lib.hid (sub_yes (some ⟨w2.heap.size+1,0,none⟩) (some ⟨w2.heap.size,0,none⟩) (R+3) (R+3) (R+3) (R+3) Fb Fa w6 (sb.below b6) (sa.below b6) (by omega) (by omega) hle2.out)
            clear SB b6 Fw
            go_wp2_with fail
            refine SB2.out.mono ?_
            rintro e' w7 ⟨v7,rfl,n7,b7⟩
            have F7:=F6.adv b7 szF6
            obtain ⟨A7,p7,c7,f7,rfl,q7,lp7,_,e7⟩:=n7.sl' KD.out
            rw [hFa.out,hFb.out] at e7
            have E7:=Lib.hid e7
            clear e7 n7 b7 SB2 F6 sa sb ra rb b szw szF szF6
            have MK:=make_any true A7 p7 c7 f7 lo w7 q7 (by omega) F7.tab (by omega) (by omega)
            rw [E7.out] at MK
            have HMK:=Lib.hid MK
            clear MK
            have sz7:=F7.sz
            go_wp2_with fail
            refine HMK.out.mono ?_
            rintro e' w9 ⟨v9,rfl,n9,b9⟩
            have F9:=F7.adv b9 sz7
            obtain ⟨cF0,cF1,cF2⟩:=F9.kr.cell
            obtain ⟨fF0,fF1,fF2⟩:=F9.kr.frozen
            clear HMK b9 F7
            generalize mkD true (part l true lo i-part l false lo i) lo=r at *
            obtain ⟨A9,p9,c9,f9,rfl,m9⟩:=n9
            go_wp2_with fail
            rw [HYES.out,HARM.out]
            refine bodyPost_ret (v:=.tuple #[.agg #[.bool r.neg,.slice A9 p9 c9,.int .i64 r.e],.bool r.ok]) (by simp [results,Tryz.results30,go_sem,cF0,cF1,cF2]) rfl
             ⟨_,rfl,Num.put3 ⟨A9,p9,c9,f9,rfl,m9⟩ F9.kr (notU_bool _) (notU_slice _ _ _) (notU_int _) _ _ _,below_put3 F9.bel (by omega) F9.bel.size _ _ _⟩
      ·
       have ra:Row 51 w5 (w2.heap.size+1) (R+3) (fun _=>0):=r52
       have rb:Row 51 w5 (w2.heap.size) (R+3) (fun _=>0):=r51
       have hga:w2.heap.size≤w2.heap.size+1:=by omega
       have hgb:w2.heap.size≤w2.heap.size:=by omega
       have hab:w2.heap.size+1≠w2.heap.size:=by omega
       clear r51 r52
       go_wp2_with fail
       go_loopw [51] (fun s51 wr=>∃ (i:Nat) (Fa Fb:Nat→Nat),i≤j∧s51=.int .i64 (i:Int)∧Row 51 wr (w2.heap.size+1) (R+3) Fa∧Row 51 wr (w2.heap.size) (R+3) Fb∧Below w2.heap.size w2 wr∧w2.heap.size+2≤wr.heap.size∧Hid (vs B64 Fa (R+3)=part l false lo i)∧Hid (vs B64 Fb (R+3)=part l true lo i)) (fun s51 _=>j-(intOf s51).toNat)
       case atStart=>exact ⟨0,_,_,Nat.zero_le _,rfl,ra,rb,b5,sz5,Lib.hid (zeros_vs _),Lib.hid (zeros_vs _)⟩
       case round =>
        clear ra rb b5 sz5
        obtain ⟨i,Fa,Fb,hi',rfl,ra,rb,b,szw,hFa,hFb⟩:=hrel
        by_cases hlt:i < j
        · obtain ⟨ad,rfl,hb,hc⟩:=h.2.1 (by omega)
          obtain ⟨c0,c1,c2⟩:=hc i hlt
          have bAll:=F2'.bel.trans (b.mono F2'.bel.size)
          have d0:=(bAll.cell (p:=ad.add (i*3)) (by rw [block_of_add];exact hb)).trans c0
          have d1:=(bAll.cell (p:=⟨(ad.add (i*3)).block,(ad.add (i*3)).off+1,none⟩) (by simp only [block_of_add];exact hb)).trans c1
          have d2:=(bAll.cell (p:=⟨(ad.add (i*3)).block,(ad.add (i*3)).off+2,none⟩) (by simp only [block_of_add];exact hb)).trans c2
          have sj:=(h.2.2 i hlt).below bAll
          have P:=HP.out i hlt
          have pl:=P.len
          have hPos:=Lib.hid P.pos
          have FIT:Hid (∀ sg,part l sg lo (i+1) < B64^(R+3)):=Lib.hid (fun sg=>part_fits hE.out hk sg (by omega) hRN.out)
          have HIT:Hid (l.n i≠0→lo≤l.e i∧l.e i≤hi∧l.e i+(nb (l.v i):Int)≤en):=Lib.hid (fun h0=>hE.out.item hlt h0)
          have hv:Hid (l.v i=vs B64 (l.x i) (l.n i)):=Lib.hid rfl
          have HPa':Hid (∀ t,(l.e i-lo).toNat=t→part l false lo (i+1)=part l false lo i+(if l.ng i=false then l.v i*2^t else 0)):=Lib.hid (fun t ht=>by rw [part,ht])
          have HPb':Hid (∀ t,(l.e i-lo).toNat=t→part l true lo (i+1)=part l true lo i+(if l.ng i=true then l.v i*2^t else 0)):=Lib.hid (fun t ht=>by rw [part,ht])
          clear c0 c1 c2 hc P bAll
          generalize l.v i=V at *
          generalize l.ng i=ng at *
          generalize l.A i=A at *
          generalize l.n i=n at *
          generalize l.c i=c at *
          generalize l.x i=x at *
          generalize l.e i=e at *
          have bA:Below wr.heap.size wr (wr.alloc (.cells #[.bool ng,.slice A n c,.int .i64 e] 24)):=(Below.refl _ wr).alloc (Nat.le_refl _) _
          have kA:=Blk3.made wr (.bool ng) (.slice A n c) (.int .i64 e)
          have hgs:wr.heap.size < (wr.alloc (.cells #[.bool ng,.slice A n c,.int .i64 e] 24)).heap.size:=by simp
          have SG:=Lib.hid (sign_any ng A n c e (wr.alloc (.cells #[.bool ng,.slice A n c,.int .i64 e] 24)) (by omega))
          go_wp2_with fail
          refine SG.out.mono ?_
          rintro e' w4 ⟨rfl,b'⟩
          have b14:=bA.trans (b'.mono bA.size)
          have b4:=b.trans (b14.mono b.size)
          have sz4:w2.heap.size+2≤w4.heap.size:=Nat.le_trans szw b14.size
          have s4:=sj.below b14
          obtain ⟨q0,q1,q2⟩:=(kA.below b' hgs).cell
          have ra4:=ra.below b14 ra.lt
          have rb4:=rb.below b14 rb.lt
          clear b' SG kA bA b14 sj d0 d1 d2 hgs ra rb b szw
          by_cases hn0:n=0
          · have hV0:Hid (V=0):=Lib.hid (by rw [hv.out,hn0,vs_zero])
            have HA:Hid (vs B64 Fa (R+3)=part l false lo (i+1)):=Lib.hid (by rw [hFa.out,HPa'.out _ rfl,hV0.out,Nat.zero_mul];simp)
            have HB:Hid (vs B64 Fb (R+3)=part l true lo (i+1)):=Lib.hid (by rw [hFb.out,HPb'.out _ rfl,hV0.out,Nat.zero_mul];simp)
            rw [show sgn n ng=0 by simp [sgn,hn0]]
            go_wp2_with fail
            go_roundw
            case rel=>exact ⟨i+1,Fa,Fb,by omega,by go_num,ra4,rb4,b4,sz4,HA,HB⟩
            case measure=>simp [intOf];omega
          · obtain ⟨t1,t2,t3⟩:=HIT.out hn0
            obtain ⟨t,ht⟩:∃ t:Nat,e-lo=(t:Int):=⟨(e-lo).toNat,by omega⟩
            have ht5:t≤5000000:=by omega
            have HV0:Hid (0 < vs B64 x n):=Lib.hid (hPos.out.1 (by omega))
            have HPa:=Lib.hid (HPa'.out t (by omega))
            have HPb:=Lib.hid (HPb'.out t (by omega))
            clear HIT t1 t2 t3 hPos HPa' HPb'
            cases ng
            · rw [show sgn n false=1 by simp [sgn,hn0]]
              simp only [if_true,Bool.false_eq_true,if_false,Nat.add_zero] at HPa HPb
              have HT2:Hid (vs B64 Fa (R+3)+vs B64 x n*2^t < B64^(R+3)):=Lib.hid (by rw [hFa.out,← hv.out,← HPa.out];exact FIT.out false)
              have AD:=Lib.hid (addAt_any (w2.heap.size+1) (R+3) Fa A n c x t w4 ra4 (by omega) s4 (by omega) (by omega) HT2.out HV0.out)
              go_wp2_with fail
              refine AD.out.mono ?_
              rintro e' w6 ⟨rfl,F',r6,o6,hv6⟩
              have b6:Below w2.heap.size w2 w6:=Only.below b4 o6 b4.size hga
              have ro6:=rb4.other o6 (Ne.symm hab)
              have sz6:w2.heap.size+2≤w6.heap.size:=Nat.le_trans sz4 o6.size
              clear AD ra4 rb4 o6 s4 b4 q0 q1 q2
              go_wp2_with fail
              go_roundw
              case rel=>exact ⟨i+1,F',Fb,by omega,by go_num,r6,ro6,b6,sz6,Lib.hid (by rw [hv6.out,hFa.out,HPa.out,hv.out]),Lib.hid (by rw [hFb.out,HPb.out])⟩
              case measure=>simp [intOf];omega
            · rw [show sgn n true=-1 by simp [sgn,hn0]]
              simp only [if_true,Bool.true_eq_false,if_false,Nat.add_zero] at HPa HPb
              have HT2:Hid (vs B64 Fb (R+3)+vs B64 x n*2^t < B64^(R+3)):=Lib.hid (by rw [hFb.out,← hv.out,← HPb.out];exact FIT.out true)
              have AD:=Lib.hid (addAt_any (w2.heap.size) (R+3) Fb A n c x t w4 rb4 (by omega) s4 (by omega) (by omega) HT2.out HV0.out)
              go_wp2_with fail
              refine AD.out.mono ?_
              rintro e' w6 ⟨rfl,F',r6,o6,hv6⟩
              have b6:Below w2.heap.size w2 w6:=Only.below b4 o6 b4.size hgb
              have ro6:=ra4.other o6 hab
              have sz6:w2.heap.size+2≤w6.heap.size:=Nat.le_trans sz4 o6.size
              clear AD rb4 ra4 o6 s4 b4 q0 q1 q2
              go_wp2_with fail
              go_roundw
              case rel=>exact ⟨i+1,Fa,F',by omega,by go_num,ro6,r6,b6,sz6,Lib.hid (by rw [hFa.out,HPa.out]),Lib.hid (by rw [hv6.out,hFb.out,HPb.out,hv.out])⟩
              case measure=>simp [intOf];omega
        · obtain rfl:i=j:=by omega
          have sa:=ra.sl0 (R+3) (R+3) (Nat.le_refl _) (Nat.le_refl _)
          have sb:=rb.sl0 (R+3) (R+3) (Nat.le_refl _) (Nat.le_refl _)
          have Fw:=F2'.adv b F2'.sz
          have szF:=Fw.sz
          have KA:=Lib.hid (vs_lt sa.small)
          have KB:=Lib.hid (vs_lt sb.small)
          by_cases hle:part l true lo i≤part l false lo i
          · have HARM:=Lib.hid (if_pos hle:(if part l true lo i≤part l false lo i then mkD false (part l false lo i-part l true lo i) lo else mkD true (part l true lo i-part l false lo i) lo)=_)
            have SB:=sub_yes (some ⟨w2.heap.size+1,0,none⟩) (some ⟨w2.heap.size,0,none⟩) (R+3) (R+3) (R+3) (R+3) Fa Fb wr sa sb (by omega) (by omega) (by rw [hFa.out,hFb.out];exact hle)
            have KD:Hid (vs B64 Fa (R+3)-vs B64 Fb (R+3) < B64^(R+3)):=Lib.hid (by have:=KA.out;omega)
            have HSB:=Lib.hid SB
            clear SB hle
            go_wp2_with fail
            refine HSB.out.mono ?_
            rintro e' w7 ⟨v7,rfl,n7,b7⟩
            have F7:=Fw.adv b7 szF
            obtain ⟨A7,p7,c7,f7,rfl,q7,lp7,_,e7⟩:=n7.sl' KD.out
            rw [hFa.out,hFb.out] at e7
            have E7:=Lib.hid e7
            clear e7 n7 b7 HSB Fw sa sb ra rb b szw szF
            have MK:=make_any false A7 p7 c7 f7 lo w7 q7 (by omega) F7.tab (by omega) (by omega)
            rw [E7.out] at MK
            have HMK:=Lib.hid MK
            clear MK
            have sz7:=F7.sz
            go_wp2_with fail
            refine HMK.out.mono ?_
            rintro e' w9 ⟨v9,rfl,n9,b9⟩
            have F9:=F7.adv b9 sz7
            obtain ⟨cF0,cF1,cF2⟩:=F9.kr.cell
            obtain ⟨fF0,fF1,fF2⟩:=F9.kr.frozen
            clear HMK b9 F7
            generalize mkD false (part l false lo i-part l true lo i) lo=r at *
            obtain ⟨A9,p9,c9,f9,rfl,m9⟩:=n9
            go_wp2_with fail
            rw [HYES.out,HARM.out]
            refine bodyPost_ret (v:=.tuple #[.agg #[.bool r.neg,.slice A9 p9 c9,.int .i64 r.e],.bool r.ok]) (by simp [results,Tryz.results30,go_sem,cF0,cF1,cF2]) rfl
             ⟨_,rfl,Num.put3 ⟨A9,p9,c9,f9,rfl,m9⟩ F9.kr (notU_bool _) (notU_slice _ _ _) (notU_int _) _ _ _,below_put3 F9.bel (by omega) F9.bel.size _ _ _⟩
          · have HARM:=Lib.hid (if_neg hle:(if part l true lo i≤part l false lo i then mkD false (part l false lo i-part l true lo i) lo else mkD true (part l true lo i-part l false lo i) lo)=_)
            have SB:=Lib.hid (sub_no (some ⟨w2.heap.size+1,0,none⟩) (some ⟨w2.heap.size,0,none⟩) (R+3) (R+3) (R+3) (R+3) Fa Fb wr sa sb (by omega) (by omega) (by rw [hFa.out,hFb.out];omega))
            have hle2:=Lib.hid (show vs B64 Fa (R+3)≤vs B64 Fb (R+3) by rw [hFa.out,hFb.out];omega)
            have KD:Hid (vs B64 Fb (R+3)-vs B64 Fa (R+3) < B64^(R+3)):=Lib.hid (by have:=KB.out;omega)
            clear hle
            go_wp2_with fail
            refine SB.out.mono ?_
            rintro e' w6 ⟨rfl,b6⟩
            have F6:=Fw.adv b6 szF
            have szF6:=F6.sz
            have SB2:=Lib.hid (sub_yes (some ⟨w2.heap.size,0,none⟩) (some ⟨w2.heap.size+1,0,none⟩) (R+3) (R+3) (R+3) (R+3) Fb Fa w6 (sb.below b6) (sa.below b6) (by omega) (by omega) hle2.out)
            clear SB b6 Fw
            go_wp2_with fail
            refine SB2.out.mono ?_
            rintro e' w7 ⟨v7,rfl,n7,b7⟩
            have F7:=F6.adv b7 szF6
            obtain ⟨A7,p7,c7,f7,rfl,q7,lp7,_,e7⟩:=n7.sl' KD.out
            rw [hFa.out,hFb.out] at e7
            have E7:=Lib.hid e7
            clear e7 n7 b7 SB2 F6 sa sb ra rb b szw szF szF6
            have MK:=make_any true A7 p7 c7 f7 lo w7 q7 (by omega) F7.tab (by omega) (by omega)
            rw [E7.out] at MK
            have HMK:=Lib.hid MK
            clear MK
            have sz7:=F7.sz
            go_wp2_with fail
            refine HMK.out.mono ?_
            rintro e' w9 ⟨v9,rfl,n9,b9⟩
            have F9:=F7.adv b9 sz7
            obtain ⟨cF0,cF1,cF2⟩:=F9.kr.cell
            obtain ⟨fF0,fF1,fF2⟩:=F9.kr.frozen
            clear HMK b9 F7
            generalize mkD true (part l true lo i-part l false lo i) lo=r at *
            obtain ⟨A9,p9,c9,f9,rfl,m9⟩:=n9
            go_wp2_with fail
            rw [HYES.out,HARM.out]
            refine bodyPost_ret (v:=.tuple #[.agg #[.bool r.neg,.slice A9 p9 c9,.int .i64 r.e],.bool r.ok]) (by simp [results,Tryz.results30,go_sem,cF0,cF1,cF2]) rfl
             ⟨_,rfl,Num.put3 ⟨A9,p9,c9,f9,rfl,m9⟩ F9.kr (notU_bool _) (notU_slice _ _ _) (notU_int _) _ _ _,below_put3 F9.bel (by omega) F9.bel.size _ _ _⟩
    · have HN:Hid (sumD (allP l j) l j=DR.no):=Lib.hid (by unfold sumD;rw [← HLO.out.1,← HLO.out.2,decide_eq_false hfar];simp)
      obtain ⟨cr0,cr1,cr2⟩:=F2'.kr.cell
      obtain ⟨fr0,fr1,fr2⟩:=F2'.kr.frozen
      go_wp2_with fail
      rw [HN.out]
      refine bodyPost_ret (v:=.tuple #[.agg #[.bool false,.slice none 0 0,.int .i64 0],.bool false]) (by simp [results,Tryz.results30,go_sem,cr0,cr1,cr2]) rfl ⟨_,rfl,num_nil _,below_put3 F2'.bel (by omega) F2'.bel.size _ _ _⟩
end Go.Proofs.YtmbmohibpkepdaaGreatDoor
