/-
 dyad.addAt: a number, shifted, added to a row in its own memory.
 dyad.extent: the least and the greatest exponent, and the greatest top, of a list of dyads in memory.
 Sums of dyads in plain numbers.
-/
import Derived.Test.YtmbmohibpkepdaaGreatDoorPlEGDy2
namespace Go.Proofs.YtmbmohibpkepdaaGreatDoor
open Go.RowKit
def AddAtPost (w:World) (g N:Nat) (T:Nat) (e:Ending) (w':World):Prop :=
 e=.returned (.tuple #[])∧∃ F',Row 51 w' g N F'∧Only w w' g∧Hid (vs B64 F' N=T)
theorem no_carry {F F' y:Nat→Nat} {N W q d m:Nat} {T:Nat} (hWq:W+q=N) (hF':∀ j,j < W→F' j=F j) (hv:vs B64 (fun j=>F' (W+j)) q+d*B64^q=vs B64 (fun j=>F (W+j)) q+vs B64 (fun j=>if j < m then y j else 0) q)
 (hmq:m≤q) (hT:vs B64 F N+vs B64 y m*B64^W=T) (hlt:T < B64^N):d=0∧vs B64 F' N=T:=by
 subst hWq
 rw [vs_pad _ _ _ _ hmq] at hv
 have e1:vs B64 F' W=vs B64 F W:=vs_congr hF'
 have e2:vs B64 F' (W+q)+d*B64^(W+q)=T:=by
  rw [vs_add,e1,← hT,vs_add]
  have h1:B64^W*(vs B64 (fun j=>F' (W+j)) q+d*B64^q)=B64^W*(vs B64 (fun j=>F (W+j)) q+vs B64 y m):=by rw [hv]
  rw [Nat.mul_add,Nat.mul_add] at h1
  have h2:d*B64^(W+q)=B64^W*(d*B64^q):=by rw [Nat.pow_add];ac_rfl
  have h3:vs B64 y m*B64^W=B64^W*vs B64 y m:=Nat.mul_comm _ _
  omega
 rcases Nat.eq_zero_or_pos d with h | h
 · subst h;exact ⟨rfl,by omega⟩
 · exfalso
   have:1*B64^(W+q)≤d*B64^(W+q):=Nat.mul_le_mul_right _ h
   omega
set_option maxHeartbeats 2000000 in
theorem addAt_core (g N:Nat) (F:Nat→Nat) (A:Option Addr) (m c:Nat) (x:Nat→Nat) (s W r T:Nat) (w:World) (hr:Row 51 w g N F) (hN:N≤100000) (ha:Sl w A m c x) (hm:m≤400000)
 (eW:(s:Int)/64=(W:Int)) (er:(s:Int)%64=(r:Int)) (hs:s≤5000000) (hr64:r≤1048576) (hT:Hid (vs B64 F N+vs B64 x m*2^r*B64^W=T)) (hlt:Hid (T < B64^N)) (hx0:0 < vs B64 x m) :
 Calls Tryz.prog 73 #[.slice (some ⟨g,0,none⟩) N N,.slice A m c,.int .i64 (s:Int)] w (AddAtPost w g N T):=by
 have SH:=Lib.hid (shl_new A m c x r w ha hm hr64)
 go_enter Tryz.func73,Tryz.ntmps73
 go_wp2_with fail
 refine SH.out.mono ?_
 rintro e w1 ⟨v1,rfl,n1,b1,hnew⟩
 obtain ⟨B,p,cb,y,rfl,sy,cy,ey⟩:=n1
 have hglt:=hr.lt
 have r1:=hr.below b1 hglt
 have hne:0 < p→∀ ad,B=some ad→ad.block≠g:=fun _ ad e=>by
  subst e
  have:=hnew ad p cb rfl
  omega
 have o1:Only w w1 g:=⟨b1.os,b1.tape,b1.output,b1.size,fun k hk _=>b1.block k hk⟩
 rw [← ey] at hT
 have hWN:Hid (W+p≤N):=Lib.hid (by
  have h0:0 < p:=by
   rcases Nat.eq_zero_or_pos p with h | h
   · subst h;rw [vs_zero] at ey;have:=Nat.mul_pos hx0 (Nat.two_pow_pos r);omega
   · exact h
  have h1:=vs_ge (b:=B64) cy h0
  have h2:B64^(p-1)*B64^W≤vs B64 y p*B64^W:=Nat.mul_le_mul_right _ h1
  rw [← Nat.pow_add] at h2
  have h3:B64^(p-1+W) < B64^N:=by have:=hT.out;have:=hlt.out;omega
  have:=(Nat.pow_lt_pow_iff_right B64_gt).1 h3
  omega)
 have hWp:=hWN.out
 clear SH hnew hWN ey hx0 er
 go_wp2_with fail
 go_loopw [6,7,17] (fun s6 s7 s17 wr=>∃ (k d:Nat) (F':Nat→Nat),k≤p∧s17=.int .i64 (k:Int)∧s7=.int .i64 ((W:Int)+(k:Int))∧s6=.int .u64 ((d:Nat):Int)∧AddInv 51 1 w1 wr g N W F F' y p k d) (fun _ _ s17 _=>p-(intOf s17).toNat)
 case atStart=>exact ⟨0,0,F,Nat.zero_le _,rfl,by go_num,rfl,AddInv.start r1⟩
 case round =>
  obtain ⟨k,d,F',hk,rfl,rfl,rfl,hinv⟩:=hrel
  by_cases hlt':k < p
  · obtain ⟨ad,rfl,hb,hx64,hcell⟩:=(sy.only hinv.2.2.1 hne).at_ hlt'
    have hrc:=hinv.2.1.cell (i:=W+k) (by omega)
    have hrf:=hinv.2.1.frozen (W+k)
    have hF:Hid (F' (W+k)=F (W+k)):=hinv.2.2.2.1 _ (by omega)
    have hFs:=hinv.2.1.2 (W+k) (by omega)
    obtain ⟨r',d',h1,h2,h3,h4⟩:=add64_run (F' (W+k)) (y k) d hinv.1 wr
    have H1:=Lib.hid h1
    clear h1 eW
    go_wp2
    go_roundw
    case rel=>exact ⟨k+1,d',upd F' (W+k) r',by omega,by go_num,by go_num,rfl,hinv.step (by rw [← hF.out,if_pos hlt'];exact H1.out) h2 (h3 hFs hx64)⟩
    case measure=>simp [intOf];omega
  · obtain rfl:k=p:=by omega
    clear hlt' hk eW
    go_wp2
    go_loopw [6,7] (fun s6 s7 wr=>∃ (q d:Nat) (F':Nat→Nat),k≤q∧W+q≤N∧s7=.int .i64 ((W:Int)+(q:Int))∧s6=.int .u64 ((d:Nat):Int)∧AddInv 51 1 w1 wr g N W F F' y k q d) (fun _ s7 _=>N-(intOf s7).toNat)
    case atStart=>exact ⟨k,d,F',Nat.le_refl _,hWp,rfl,rfl,hinv⟩
    case round =>
     clear hinv
     obtain ⟨q,d,F',hq,hqn,rfl,rfl,hinv⟩:=hrel
     by_cases hd:d=0
     · subst hd
       go_wp2
       go_end0
       have h2:=hinv.rest hq (N-W-q)
       obtain ⟨_,hrow,hon,hag,hv⟩:=h2
       exact ⟨rfl,F',hrow,o1.trans hon,Lib.hid (no_carry (by omega) (fun j hj=>hag j (by omega)) hv (by omega) hT.out hlt.out).2⟩
     · have hqN:W+q < N:=by
        rcases Nat.lt_or_ge (W+q) N with h | h
        · exact h
        · exact absurd (no_carry (by omega) (fun j hj=>hinv.2.2.2.1 j (by omega)) hinv.2.2.2.2 hq hT.out hlt.out).1 hd
       have hdn:((d:Int) != 0)=true:=by simp;omega
       have hrc:=hinv.2.1.cell (i:=W+q) (by omega)
       have hrf:=hinv.2.1.frozen (W+q)
       have hF:Hid (F' (W+q)=F (W+q)):=hinv.2.2.2.1 _ (by omega)
       have hFs:=hinv.2.1.2 (W+q) (by omega)
       obtain ⟨r',d',h1,h2,h3,h4⟩:=add64_run (F' (W+q)) 0 d hinv.1 wr
       rw [show ((0:Nat):Int)=0 from rfl] at h4
       have H1:=Lib.hid h1
       clear h1
       go_wp2
       go_roundw
       case rel=>exact ⟨q+1,d',upd F' (W+q) r',by omega,by omega,by go_num,rfl,hinv.step (by rw [← hF.out,if_neg (by omega)];exact H1.out) h2 (h3 hFs B64_pos)⟩
       case measure=>simp [intOf];omega
theorem addAt_any (g N:Nat) (F:Nat→Nat) (A:Option Addr) (m c:Nat) (x:Nat→Nat) (s:Nat) (w:World) (hr:Row 51 w g N F) (hN:N≤100000) (ha:Sl w A m c x) (hm:m≤400000) (hs:s≤5000000)
 (hlt:vs B64 F N+vs B64 x m*2^s < B64^N) (hx0:0 < vs B64 x m) :
 Calls Tryz.prog 73 #[.slice (some ⟨g,0,none⟩) N N,.slice A m c,.int .i64 (s:Int)] w (AddAtPost w g N (vs B64 F N+vs B64 x m*2^s)):=by
 have e:vs B64 x m*2^s=vs B64 x m*2^(s%64)*B64^(s/64):=by
  have h:=pow_split s
  rw [h,Nat.mul_assoc,Nat.mul_comm (2^(s%64))]
 exact addAt_core g N F A m c x s (s/64) (s%64) _ w hr hN ha hm (by omega) (by omega) hs (by omega) (Lib.hid (by rw [e])) (Lib.hid hlt) hx0
end Go.Proofs.YtmbmohibpkepdaaGreatDoor
namespace Go.Proofs.YtmbmohibpkepdaaGreatDoor
open Go.RowKit
structure DL where
 ng:Nat→Bool
 A:Nat→Option Addr
 n:Nat→Nat
 c:Nat→Nat
 x:Nat→Nat→Nat
 e:Nat→Int
def DL.v (l:DL) (j:Nat):Nat:=vs B64 (l.x j) (l.n j)
def Ls (w:World) (L:Option Addr) (k cp:Nat) (l:DL):Prop :=
 k≤cp∧(0 < k→∃ ad,L=some ad∧ad.block < w.heap.size∧∀ j,j < k→w.cell? (ad.add (j*3))=some (.bool (l.ng j))∧w.cell? ⟨(ad.add (j*3)).block,(ad.add (j*3)).off+1,none⟩=some (.slice (l.A j) (l.n j) (l.c j))∧w.cell? ⟨(ad.add (j*3)).block,(ad.add (j*3)).off+2,none⟩=some (.int .i64 (l.e j))) ∧
  ∀ j,j < k→Sl w (l.A j) (l.n j) (l.c j) (l.x j)
theorem Ls.below {w w':World} {L:Option Addr} {k cp:Nat} {l:DL} (h:Ls w L k cp l) (b:Below w.heap.size w w'):Ls w' L k cp l:=by
 obtain ⟨h1,h2,h3⟩:=h
 refine ⟨h1,fun hk=>?_,fun j hj=>(h3 j hj).below b⟩
 obtain ⟨ad,e,hb,hc⟩:=h2 hk
 refine ⟨ad,e,Nat.lt_of_lt_of_le hb b.size,fun j hj=>?_⟩
 obtain ⟨c0,c1,c2⟩:=hc j hj
 exact ⟨(b.cell (by rw [block_of_add];exact hb)).trans c0,(b.cell (by simp only [block_of_add];exact hb)).trans c1,(b.cell (by simp only [block_of_add];exact hb)).trans c2⟩
def ext (l:DL):Nat→Option (Int×Int)
 | 0=>none
 | k+1=>if l.n k=0 then ext l k else match ext l k with
  | none=>some (l.e k,l.e k)
  | some (a,b)=>some (min a (l.e k),max b (l.e k))
def EInv (l:DL) (j:Nat) (lo hi en:Int) (fd:Bool):Prop:=match ext l j with
 | none=>fd=false∧lo=0∧hi=0∧en=0
 | some (a,b)=>fd=true∧lo=a∧hi=b∧en≤b+16384∧∀ i,i < j→l.n i≠0→a≤l.e i∧l.e i≤b∧l.e i+(nb (l.v i):Int)≤en
theorem ext_none {l:DL} {j:Nat} (h:ext l j=none):∀ i,i < j→l.n i=0:=by
 induction j with
 | zero=>intro i hi;omega
 | succ j ih =>
  intro i hi
  unfold ext at h
  by_cases h0:l.n j=0
  · rw [if_pos h0] at h
    rcases Nat.lt_or_ge i j with h1 | h1
    · exact ih h i h1
    · obtain rfl:i=j:=by omega
      exact h0
  · rw [if_neg h0] at h
    cases h2:ext l j with
    | none=>rw [h2] at h;cases h
    | some p=>rw [h2] at h;cases h
theorem EInv.start (l:DL):EInv l 0 0 0 0 false:=⟨rfl,rfl,rfl,rfl⟩
theorem EInv.zero {l:DL} {j:Nat} {lo hi en:Int} {fd:Bool} (h:EInv l j lo hi en fd) (h0:l.n j=0):EInv l (j+1) lo hi en fd:=by
 unfold EInv at *
 rw [ext,if_pos h0]
 cases he:ext l j with
 | none=>rw [he] at h;exact h
 | some p =>
  rw [he] at h
  obtain ⟨a,b⟩:=p
  obtain ⟨h1,h2,h3,h4,h5⟩:=h
  refine ⟨h1,h2,h3,h4,fun i hi hn=>?_⟩
  rcases Nat.lt_or_ge i j with h' | h'
  · exact h5 i h' hn
  · obtain rfl:i=j:=by omega
    exact absurd h0 hn
theorem EInv.first {l:DL} {j:Nat} {lo hi en:Int} (h:EInv l j lo hi en false) (h0:l.n j≠0) (hb:nb (l.v j)≤16384):EInv l (j+1) (l.e j) (l.e j) (l.e j+(nb (l.v j):Int)) true:=by
 unfold EInv at *
 rw [ext,if_neg h0]
 cases he:ext l j with
 | none =>
  refine ⟨rfl,rfl,rfl,by omega,fun i hi hn=>?_⟩
  rcases Nat.lt_or_ge i j with h' | h'
  · exact absurd (ext_none he i h') hn
  · obtain rfl:i=j:=by omega
    exact ⟨Int.le_refl _,Int.le_refl _,Int.le_refl _⟩
 | some p=>rw [he] at h;obtain ⟨a,b⟩:=p;exact absurd h.1 (by decide)
theorem EInv.more {l:DL} {j:Nat} {lo hi en:Int} (h:EInv l j lo hi en true) (h0:l.n j≠0) (hb:nb (l.v j)≤16384):EInv l (j+1) (min lo (l.e j)) (max hi (l.e j)) (max en (l.e j+(nb (l.v j):Int))) true:=by
 unfold EInv at *
 rw [ext,if_neg h0]
 cases he:ext l j with
 | none=>rw [he] at h;exact absurd h.1 (by decide)
 | some p =>
  rw [he] at h
  obtain ⟨a,b⟩:=p
  obtain ⟨_,rfl,rfl,h4,h5⟩:=h
  refine ⟨rfl,rfl,rfl,by omega,fun i hi' hn=>?_⟩
  rcases Nat.lt_or_ge i j with h' | h'
  · obtain ⟨g1,g2,g3⟩:=h5 i h' hn
    exact ⟨by omega,by omega,by omega⟩
  · obtain rfl:i=j:=by omega
    exact ⟨by omega,by omega,by omega⟩
def ExtPost (w:World) (l:DL) (k:Nat) (e:Ending) (w':World):Prop:=∃ (lo hi en:Int) (fd:Bool),e=.returned (.tuple #[.int .i64 lo,.int .i64 hi,.int .i64 en])∧Hid (EInv l k lo hi en fd)∧Below w.heap.size w w'
set_option maxHeartbeats 4000000 in
theorem extent_any (L:Option Addr) (k cp:Nat) (l:DL) (w:World) (h:Ls w L k cp l) (hk:k≤1000) (hP:∀ j,j < k→PlainF (l.ng j) (l.n j) (l.x j) (l.e j)) :
 Calls Tryz.prog 72 #[.slice L k cp] w (ExtPost w l k):=by
 have HP:=Lib.hid hP
 clear hP
 go_enter Tryz.func72,Tryz.ntmps72
 go_wp2_with fail
 go_loopw [2,3,4,5,10] (fun s2 s3 s4 s5 s10 wr=>∃ (j:Nat) (lo hi en:Int) (fd:Bool),j≤k∧s10=.int .i64 (j:Int)∧s2=.int .i64 lo∧s3=.int .i64 hi∧s4=.int .i64 en∧s5=.bool fd∧Hid (EInv l j lo hi en fd)∧Below w.heap.size w wr) (fun _ _ _ _ s10 _=>k-(intOf s10).toNat)
 case atStart=>exact ⟨0,0,0,0,false,Nat.zero_le _,rfl,rfl,rfl,rfl,rfl,Lib.hid (EInv.start l),Below.refl _ _⟩
 case round =>
  obtain ⟨j,lo,hi,en,fd,hj,rfl,rfl,rfl,rfl,rfl,hinv,bw⟩:=hrel
  by_cases hlt:j < k
  · obtain ⟨ad,rfl,hb,hc⟩:=h.2.1 (by omega)
    obtain ⟨c0,c1,c2⟩:=hc j hlt
    have d0:=(bw.cell (p:=ad.add (j*3)) (by rw [block_of_add];exact hb)).trans c0
    have d1:=(bw.cell (p:=⟨(ad.add (j*3)).block,(ad.add (j*3)).off+1,none⟩) (by simp only [block_of_add];exact hb)).trans c1
    have d2:=(bw.cell (p:=⟨(ad.add (j*3)).block,(ad.add (j*3)).off+2,none⟩) (by simp only [block_of_add];exact hb)).trans c2
    have P:=HP.out j hlt
    have pl:=P.len
    have pb:nb (l.v j)≤16384:=P.bits
    have pe1:=P.e1
    have pe2:=P.e2
    have sj:=(h.2.2 j hlt).below bw
    have hZ:=Lib.hid (fun h0=>hinv.out.zero (h0:l.n j=0))
    have hF:=Lib.hid (fun (h1:fd=false) h0=>EInv.first (h1 ▸ hinv.out) (h0:l.n j≠0) pb)
    have hM:=Lib.hid (fun (h1:fd=true) h0=>EInv.more (h1 ▸ hinv.out) (h0:l.n j≠0) pb)
    have hv:Hid (l.v j=vs B64 (l.x j) (l.n j)):=Lib.hid rfl
    clear c0 c1 c2 hc P hinv
    generalize l.v j=V at *
    generalize l.ng j=ng at *
    generalize l.A j=A at *
    generalize l.n j=n at *
    generalize l.c j=c at *
    generalize l.x j=x at *
    generalize l.e j=e at *
    have bA:Below wr.heap.size wr (wr.alloc (.cells #[.bool ng,.slice A n c,.int .i64 e] 24)):=(Below.refl _ wr).alloc (Nat.le_refl _) _
    have kA:=Blk3.made wr (.bool ng) (.slice A n c) (.int .i64 e)
    have hgs:wr.heap.size < (wr.alloc (.cells #[.bool ng,.slice A n c,.int .i64 e] 24)).heap.size:=by simp
    have IZ:=Lib.hid (isZero_any ng A n c e (wr.alloc (.cells #[.bool ng,.slice A n c,.int .i64 e] 24)) (by omega))
    go_wp2_with fail
    refine IZ.out.mono ?_
    rintro e' w2 ⟨rfl,b⟩
    have b12:=bA.trans (b.mono bA.size)
    have b2:=bw.trans (b12.mono bw.size)
    have s2:=sj.below b12
    have k2:=kA.below b hgs
    have hg2:wr.heap.size < w2.heap.size:=Nat.lt_of_lt_of_le hgs b.size
    clear b IZ kA bA b12 sj d0 d1 d2 hgs
    obtain ⟨q0,q1,q2⟩:=k2.cell
    by_cases hn0:n=0
    · rw [show decide (n=0)=true by simp [hn0]]
      have HN:=Lib.hid (hZ.out hn0)
      clear hZ hF hM
      go_wp2_with fail
      go_roundw
      case rel=>exact ⟨j+1,lo,hi,en,fd,by omega,by go_num,rfl,rfl,rfl,rfl,HN,b2⟩
      case measure=>simp [intOf];omega
    · rw [show decide (n=0)=false by simp [hn0]]
      obtain ⟨tp,htp⟩:∃ tp:Int,Hid (tp=e+(nb V:Int)):=⟨_,Lib.hid rfl⟩
      rw [← htp.out] at hF hM
      have TP:Hid (∀ w',Below w2.heap.size w2 w'→Calls Tryz.prog 121 #[.agg #[.bool ng,.slice A n c,.int .i64 e]] w' fun r w''=>r=.returned (.int .i64 tp)∧Below w2.heap.size w2 w''):=Lib.hid (fun w' h'=>by
       refine (top_any ng A n c x e w' (s2.below h') (by omega) (by omega) (by omega)).mono ?_
       rintro r w'' ⟨rfl,b⟩
       rw [← hv.out,← htp.out]
       exact ⟨rfl,h'.trans (b.mono h'.size)⟩)
      cases fd
      · have HN:=Lib.hid (hF.out rfl hn0)
        clear hZ hF hM
        go_wp2_with fail
        go_region_held3 (fun w'=>w'.cell? ⟨wr.heap.size,0,none⟩=some (.bool ng)∧w'.cell? ⟨wr.heap.size,1,none⟩=some (.slice A n c)∧w'.cell? ⟨wr.heap.size,2,none⟩=some (.int .i64 e))
         (first | exact ⟨q0,q1,q2⟩ | exact ⟨(b3.cell hg2).trans q0,(b3.cell hg2).trans q1,(b3.cell hg2).trans q2⟩)
         (first | (go_at_call 121;refine (TP.out _ (by first | exact Below.refl _ _ | exact (Below.refl _ w2).drew)).mono ?_;rintro e' w3 ⟨rfl,b3⟩))
        all_goals (go_wp2_with fail)
        all_goals go_roundw
        case rel=>exact ⟨j+1,e,e,tp,true,by omega,by go_num,rfl,rfl,rfl,rfl,HN,b2.trans (b3.mono b2.size)⟩
        case measure=>simp [intOf];omega
      · have HN:=Lib.hid (hM.out rfl hn0)
        clear hZ hF hM
        go_wp2_with fail
        go_region_held3 (fun w'=>w'.cell? ⟨wr.heap.size,0,none⟩=some (.bool ng)∧w'.cell? ⟨wr.heap.size,1,none⟩=some (.slice A n c)∧w'.cell? ⟨wr.heap.size,2,none⟩=some (.int .i64 e))
         (first | exact ⟨q0,q1,q2⟩ | exact ⟨(b3.cell hg2).trans q0,(b3.cell hg2).trans q1,(b3.cell hg2).trans q2⟩)
         (first | (go_at_call 121;refine (TP.out _ (by first | exact Below.refl _ _ | exact (Below.refl _ w2).drew)).mono ?_;rintro e' w3 ⟨rfl,b3⟩))
        all_goals (go_wp2_with fail)
        all_goals go_roundw
        all_goals first
         | exact ⟨j+1,min lo e,max hi e,max en tp,true,by omega,by go_num,rfl,rfl,rfl,rfl,HN,b2.trans (b3.mono b2.size)⟩
         | (simp [intOf];omega)
  · obtain rfl:j=k:=by omega
    go_wp2_with fail
    go_ret3
    exact ⟨lo,hi,en,fd,rfl,hinv,bw⟩
end Go.Proofs.YtmbmohibpkepdaaGreatDoor
namespace Go.Proofs.YtmbmohibpkepdaaGreatDoor
open Go.RowKit
def part (l:DL) (sg:Bool) (lo:Int):Nat→Nat
 | 0=>0
 | k+1=>part l sg lo k+(if l.ng k=sg then l.v k*2^(l.e k-lo).toNat else 0)
def loOf (l:DL) (k:Nat):Int:=((ext l k).getD (0,0)).1
def hiOf (l:DL) (k:Nat):Int:=((ext l k).getD (0,0)).2
def sumD (ok:Bool) (l:DL) (k:Nat):DR :=
 if ok && decide (hiOf l k-loOf l k≤262144) then
  (if part l true (loOf l k) k≤part l false (loOf l k) k then mkD false (part l false (loOf l k) k-part l true (loOf l k) k) (loOf l k)
   else mkD true (part l true (loOf l k) k-part l false (loOf l k) k) (loOf l k))
 else DR.no
theorem EInv.lohi {l:DL} {k:Nat} {lo hi en:Int} {fd:Bool} (h:EInv l k lo hi en fd):lo=loOf l k∧hi=hiOf l k:=by
 unfold EInv at h
 unfold loOf hiOf
 cases he:ext l k with
 | none=>rw [he] at h;obtain ⟨_,rfl,rfl,_⟩:=h;exact ⟨rfl,rfl⟩
 | some p=>rw [he] at h;obtain ⟨a,b⟩:=p;obtain ⟨_,rfl,rfl,_⟩:=h;exact ⟨rfl,rfl⟩
theorem EInv.item {l:DL} {k:Nat} {lo hi en:Int} {fd:Bool} (h:EInv l k lo hi en fd) {j:Nat} (hj:j < k) (h0:l.n j≠0):lo≤l.e j∧l.e j≤hi∧l.e j+(nb (l.v j):Int)≤en:=by
 unfold EInv at h
 cases he:ext l k with
 | none=>exact absurd (ext_none he j hj) h0
 | some p=>rw [he] at h;obtain ⟨a,b⟩:=p;obtain ⟨_,rfl,rfl,_,h5⟩:=h;exact h5 j hj h0
theorem EInv.en {l:DL} {k:Nat} {lo hi en:Int} {fd:Bool} (h:EInv l k lo hi en fd):en≤hi+16384:=by
 unfold EInv at h
 cases he:ext l k with
 | none=>rw [he] at h;obtain ⟨_,rfl,rfl,rfl⟩:=h;omega
 | some p=>rw [he] at h;obtain ⟨a,b⟩:=p;obtain ⟨_,_,rfl,h4,_⟩:=h;exact h4
theorem ext_lo_le (l:DL) (k:Nat) (a b:Int) (h:ext l k=some (a,b)):(∃ i,i < k∧l.n i≠0)∧(∀ E:Int,(∀ i,i < k→l.n i≠0→-E≤l.e i∧l.e i≤E)→-E≤a∧b≤E∧a≤b):=by
 induction k generalizing a b with
 | zero=>cases h
 | succ k ih =>
  unfold ext at h
  by_cases h0:l.n k=0
  · rw [if_pos h0] at h
    obtain ⟨⟨i,hi,hn⟩,h2⟩:=ih a b h
    exact ⟨⟨i,by omega,hn⟩,fun E hE=>h2 E fun i hi hn=>hE i (by omega) hn⟩
  · rw [if_neg h0] at h
    refine ⟨⟨k,by omega,h0⟩,fun E hE=>?_⟩
    have hk:=hE k (by omega) h0
    cases he:ext l k with
    | none=>rw [he] at h;simp at h;obtain ⟨rfl,rfl⟩:=h;exact ⟨hk.1,hk.2,Int.le_refl _⟩
    | some p =>
     obtain ⟨c,d⟩:=p
     rw [he] at h
     simp at h
     obtain ⟨rfl,rfl⟩:=h
     obtain ⟨h3,h4,h5⟩:=(ih c d he).2 E fun i hi hn=>hE i (by omega) hn
     exact ⟨by omega,by omega,by omega⟩
theorem EInv.bound {l:DL} {k:Nat} {lo hi en:Int} {fd:Bool} (h:EInv l k lo hi en fd) (hP:∀ j,j < k→PlainF (l.ng j) (l.n j) (l.x j) (l.e j)):-262144≤lo∧hi≤262144∧lo≤hi∧lo≤en:=by
 have hE:∀ i,i < k→l.n i≠0→-262144≤l.e i∧l.e i≤262144:=fun i hi _=>⟨(hP i hi).e1,(hP i hi).e2⟩
 have h':=h
 unfold EInv at h'
 cases he:ext l k with
 | none=>rw [he] at h';obtain ⟨_,rfl,rfl,rfl⟩:=h';omega
 | some p =>
  obtain ⟨a,b⟩:=p
  rw [he] at h'
  obtain ⟨_,rfl,rfl,h4,h5⟩:=h'
  obtain ⟨⟨i,hi,hn⟩,h6⟩:=ext_lo_le l k lo hi he
  obtain ⟨g1,g2,g3⟩:=h6 262144 hE
  have:=h5 i hi hn
  exact ⟨g1,g2,g3,by omega⟩
theorem part_le {l:DL} {k:Nat} {lo hi en:Int} {fd:Bool} (h:EInv l k lo hi en fd) (sg:Bool):∀ j,j≤k→part l sg lo j≤j*2^(en-lo).toNat:=by
 intro j
 induction j with
 | zero=>intro _;exact Nat.zero_le _
 | succ j ih =>
  intro hj
  have h1:=ih (by omega)
  have h2:(if l.ng j=sg then l.v j*2^(l.e j-lo).toNat else 0)≤2^(en-lo).toNat:=by
   by_cases hs:l.ng j=sg
   · rw [if_pos hs]
     by_cases h0:l.n j=0
     · have:l.v j=0:=by unfold DL.v;rw [h0,vs_zero]
       rw [this,Nat.zero_mul];exact Nat.zero_le _
     · obtain ⟨g1,_,g3⟩:=h.item (by omega) h0
       have h3:l.v j*2^(l.e j-lo).toNat≤2^nb (l.v j)*2^(l.e j-lo).toNat:=Nat.mul_le_mul_right _ (Nat.le_of_lt (nb_lt _))
       rw [← Nat.pow_add] at h3
       exact Nat.le_trans h3 (Nat.pow_le_pow_right (by omega) (by omega))
   · rw [if_neg hs];exact Nat.zero_le _
  rw [part,Nat.add_mul,Nat.one_mul]
  omega
theorem part_fits {l:DL} {k:Nat} {lo hi en:Int} {fd:Bool} (h:EInv l k lo hi en fd) (hk:k≤1000) (sg:Bool) {j:Nat} (hj:j≤k) {N:Nat} (hN:(en-lo).toNat/64+3=N):part l sg lo j < B64^N:=by
 have h1:=part_le h sg j hj
 have h2:j*2^(en-lo).toNat≤2^10*2^(en-lo).toNat:=Nat.mul_le_mul_right _ (by omega)
 rw [← Nat.pow_add] at h2
 rw [B64_pow,← Nat.pow_mul]
 exact Nat.lt_of_le_of_lt (Nat.le_trans h1 h2) (Nat.pow_lt_pow_right (by omega) (by omega))
end Go.Proofs.YtmbmohibpkepdaaGreatDoor
