/-
 span.Work: Fail, keep; volvelleref03's Fail, give.
 A method of a work with one span: its beginning.
 span.Work.Neg.
 span.Work.Point, volvelleref03's Point.
 volvelleref03.Same: two spans with the same numbers are the same.
 span.Sign and volvelleref03.Sign.
-/
import Derived.Test.YtmbmohibpkepdaaGreatDoorPlEGDy5
import Derived.Test.YtmbmohibpkepdaaGreatDoorPlEGDy11
import Derived.Test.YtmbmohibpkepdaaGreatDoorPlEGDy12
import Derived.Test.YtmbmohibpkepdaaGreatDoorPlEGSp1
namespace Go.Proofs.YtmbmohibpkepdaaGreatDoor
open Go.RowKit
variable {TW:TypeId}
structure SRes where
 bad:Bool
 lo:DR
 hi:DR
def SRes.no:SRes:=⟨true,DR.zero,DR.zero⟩
def keepS (bad:Bool) (lo hi:DR) (ok:Bool):SRes:=if ok then ⟨bad,lo,hi⟩ else .no
def SPost (T:TypeId) (w:World) (g:Nat) (p:Int) (r:SRes) (e:Ending) (w':World):Prop :=
 ∃ A n c B m d,e=.returned (spv r.lo.neg A n c r.lo.e r.hi.neg B m d r.hi.e)∧Num w' (.slice A n c) r.lo.m∧Num w' (.slice B m d) r.hi.m∧Wk T w' g p r.bad∧Only w w' g
theorem only_new {w w1 w2:World} {g gr:Nat} (h:Only w w1 g) (o:Only w1 w2 gr) (hg:w.heap.size≤gr):Only w w2 g :=
 ⟨o.os.trans h.os,o.tape.trans h.tape,o.output.trans h.output,Nat.le_trans h.size o.size,fun i hi hne=>(o.block i (Nat.lt_of_lt_of_le hi h.size) (by simp;omega)).trans (h.block i hi hne)⟩
theorem num_wk {T:TypeId} {w w':World} {g:Nat} {p:Int} {bad:Bool} (k:Wk T w g p bad) (o:Only w w' g) {v:Value} {V:Nat} (h:Num w v V):Num w' v V:=by
 obtain ⟨A,n,c,f,hv,hs,hc,he⟩:=h
 exact ⟨A,n,c,f,hv,hs.wk k o,hc,he⟩
abbrev put6 (w:World) (g:Nat) (a b c d e f:Value):World:=(((((w.setCell ⟨g,0,none⟩ a).setCell ⟨g,1,none⟩ b).setCell ⟨g,2,none⟩ c).setCell ⟨g,3,none⟩ d).setCell ⟨g,4,none⟩ e).setCell ⟨g,5,none⟩ f
theorem only_put6 (w:World) (g:Nat) (a b c d e f:Value):Only w (put6 w g a b c d e f) g:=((((((Only.refl w g).set_ 0 a).set_ 1 b).set_ 2 c).set_ 3 d).set_ 4 e).set_ 5 f
theorem Sl.apart6 {w:World} {A:Option Addr} {n c:Nat} {f:Nat→Nat} {g:Nat} {x0 x1 x2 x3 x4 x5:Value} (hs:Sl w A n c f) (hb:Blk6 w g x0 x1 x2 x3 x4 x5) (h0:NotU x0) (h1:NotU x1) (h2:NotU x2) (h3:NotU x3) (h4:NotU x4) (h5:NotU x5):0 < n→∀ ad,A=some ad→ad.block≠g:=fun hn ad e he=>by
 obtain ⟨ad',e',_,_,hc⟩:=hs.at_ (k:=0) hn
 rw [e] at e'
 injection e' with e'
 subst e'
 unfold Blk6 at hb
 rw [show ad.add 0=ad from by simp [Addr.add]] at hc
 simp only [World.cell?,he,hb] at hc
 split at hc
 · cases hc
 · rcases h9:ad.off with _ | _ | _ | _ | _ | _ | k
   · rw [h9] at hc;simp at hc;exact h0 _ hc
   · rw [h9] at hc;simp at hc;exact h1 _ hc
   · rw [h9] at hc;simp at hc;exact h2 _ hc
   · rw [h9] at hc;simp at hc;exact h3 _ hc
   · rw [h9] at hc;simp at hc;exact h4 _ hc
   · rw [h9] at hc;simp at hc;exact h5 _ hc
   · rw [h9] at hc;simp at hc
theorem num_put6 {w:World} {v:Value} {V g:Nat} {na nb':Bool} {A B:Option Addr} {n c m d:Nat} {ea eb:Int} (h:Num w v V) (hb:Blk6 w g (.bool na) (.slice A n c) (.int .i64 ea) (.bool nb') (.slice B m d) (.int .i64 eb)) (a b c' d' e f:Value):Num (put6 w g a b c' d' e f) v V:=by
 obtain ⟨A,n,cp,f',hv,hs,hc,he⟩:=h
 exact ⟨A,n,cp,f',hv,hs.only (only_put6 w g a b c' d' e f) (hs.apart6 hb (notU_bool _) (notU_slice _ _ _) (notU_int _) (notU_bool _) (notU_slice _ _ _) (notU_int _)),hc,he⟩
theorem fail_any (g:Nat) (p:Int) (bad:Bool) (w:World) (hW:Wk TW w g p bad):Calls Tryz.prog 87 #[.pointer (some ⟨g,0,none⟩)] w fun e w'=>e=.returned (.tuple #[])∧Wk TW w' g p true∧Only w w' g:=by
 obtain ⟨kw0,kw1⟩:=hW.cell
 have kwf:=hW.frozen 1
 go_enter Tryz.func87,Tryz.ntmps87
 go_wp2_with fail
 go_end0
 exact ⟨rfl,hW.set1 true,only_set1 _ _ _⟩
abbrev z6:Obj:=co6 (.bool false) (.slice none 0 0) (.int .i64 0) (.bool false) (.slice none 0 0) (.int .i64 0)
abbrev B6z (w:World) (g:Nat):Prop:=Blk6 w g (.bool false) (.slice none 0 0) (.int .i64 0) (.bool false) (.slice none 0 0) (.int .i64 0)
theorem start336 (w:World) (a b c d e f:Value):Below w.heap.size w (((w.alloc (cd3 a b c)).alloc (cd3 d e f)).alloc z6)∧K3 (((w.alloc (cd3 a b c)).alloc (cd3 d e f)).alloc z6) w.heap.size a b c ∧
 K3 (((w.alloc (cd3 a b c)).alloc (cd3 d e f)).alloc z6) (w.heap.size+1) d e f∧B6z (((w.alloc (cd3 a b c)).alloc (cd3 d e f)).alloc z6) (w.heap.size+1+1)∧w.heap.size+3≤(((w.alloc (cd3 a b c)).alloc (cd3 d e f)).alloc z6).heap.size:=by
 obtain ⟨b1,k1,k2⟩:=start33 w a b c d e f
 have b2:=alloc_bel ((w.alloc (cd3 a b c)).alloc (cd3 d e f)) z6
 have k3:=Blk6.made ((w.alloc (cd3 a b c)).alloc (cd3 d e f)) (.bool false) (.slice none 0 0) (.int .i64 0) (.bool false) (.slice none 0 0) (.int .i64 0)
 rw [show ((w.alloc (cd3 a b c)).alloc (cd3 d e f)).heap.size=w.heap.size+1+1 by simp] at k3
 exact ⟨below_step b1 b2,k1.adv b2,k2.adv b2,k3,by simp⟩
theorem Blk6.only {w w':World} {g gr:Nat} {a b c d e f:Value} (h:Blk6 w gr a b c d e f) (o:Only w w' g) (hne:gr≠g) (hs:gr < w.heap.size):Blk6 w' gr a b c d e f:=(o.block gr hs (by simpa using hne)).trans h
theorem spost_put {T:TypeId} {w w1:World} {g gr:Nat} {p:Int} {bad:Bool} {lo hi:DR} {A B:Option Addr} {n c m d:Nat} (ha:Num w1 (.slice A n c) lo.m) (hb:Num w1 (.slice B m d) hi.m) (hW:Wk T w1 g p bad) (o:Only w w1 g) (hr:B6z w1 gr) (h1:w.heap.size≤gr) (h2:g < w.heap.size) :
 Num (put6 w1 gr (.bool lo.neg) (.slice A n c) (.int .i64 lo.e) (.bool hi.neg) (.slice B m d) (.int .i64 hi.e)) (.slice A n c) lo.m∧Num (put6 w1 gr (.bool lo.neg) (.slice A n c) (.int .i64 lo.e) (.bool hi.neg) (.slice B m d) (.int .i64 hi.e)) (.slice B m d) hi.m ∧
 Wk T (put6 w1 gr (.bool lo.neg) (.slice A n c) (.int .i64 lo.e) (.bool hi.neg) (.slice B m d) (.int .i64 hi.e)) g p bad∧Only w (put6 w1 gr (.bool lo.neg) (.slice A n c) (.int .i64 lo.e) (.bool hi.neg) (.slice B m d) (.int .i64 hi.e)) g :=
 ⟨num_put6 ha hr _ _ _ _ _ _,num_put6 hb hr _ _ _ _ _ _,hW.only (only_put6 _ _ _ _ _ _ _ _) (by omega),only_new o (only_put6 _ _ _ _ _ _ _ _) h1⟩
set_option maxHeartbeats 2000000 in
theorem keep_any (g:Nat) (p:Int) (bad:Bool) (lo hi:DR) (A B:Option Addr) (n c m d:Nat) (ok:Bool) (w:World) (hW:Wk TW w g p bad) (ha:Num w (.slice A n c) lo.m) (hb:Num w (.slice B m d) hi.m) :
 Calls Tryz.prog 125 #[.pointer (some ⟨g,0,none⟩),dyv lo.neg A n c lo.e,dyv hi.neg B m d hi.e,.bool ok] w (SPost TW w g p (keepS bad lo hi ok)):=by
 obtain ⟨b1,kA,kB,kR,hsz⟩:=start336 w (.bool lo.neg) (.slice A n c) (.int .i64 lo.e) (.bool hi.neg) (.slice B m d) (.int .i64 hi.e)
 have hg:=hW.2
 have hW1:=hW.below b1
 have ha1:=ha.below b1
 have hb1:=hb.below b1
 have o1:=only_of_below g b1
 go_enter Tryz.func125,Tryz.ntmps125
 cases ok
 · go_wp2_with fail
   generalize ((w.alloc (cd3 (.bool lo.neg) (.slice A n c) (.int .i64 lo.e))).alloc (cd3 (.bool hi.neg) (.slice B m d) (.int .i64 hi.e))).alloc z6=w1 at *
   refine (fail_any g p bad w1 hW1).mono ?_
   rintro e' w2 ⟨rfl,hW2,o2⟩
   have kR2:=kR.only o2 (by omega) (by omega)
   obtain ⟨r0,r1,r2,r3,r4,r5⟩:=kR2.cell
   have rf:=kR2.frozen
   have rf0:=rf 0
   have rf1:=rf 1
   have rf2:=rf 2
   have rf3:=rf 3
   have rf4:=rf 4
   have rf5:=rf 5
   clear kA kB kR b1 ha1 hb1 rf
   go_wp2_with fail
   obtain ⟨q1,q2,q3,q4⟩:=spost_put (lo:=DR.zero) (hi:=DR.zero) (num_nil w2) (num_nil w2) hW2 (o1.trans o2) kR2 (by omega) hg
   exact bodyPost_ret (v:=spv false none 0 0 0 false none 0 0 0) (by simp [results,Tryz.results125,go_sem,r0,r1,r2,r3,r4,r5]) rfl ⟨none,0,0,none,0,0,rfl,q1,q2,q3,q4⟩
 · obtain ⟨ka0,ka1,ka2,ka3⟩:=kA.cell
   obtain ⟨kb0,kb1,kb2,kb3⟩:=kB.cell
   obtain ⟨b0,_,_⟩:=start33 w (.bool lo.neg) (.slice A n c) (.int .i64 lo.e) (.bool hi.neg) (.slice B m d) (.int .i64 hi.e)
   have b2:=below_step b0 (alloc_bel ((w.alloc (cd3 (.bool lo.neg) (.slice A n c) (.int .i64 lo.e))).alloc (cd3 (.bool hi.neg) (.slice B m d) (.int .i64 hi.e))) (co6 (.bool lo.neg) (.slice A n c) (.int .i64 lo.e) (.bool hi.neg) (.slice B m d) (.int .i64 hi.e)))
   have kZ:=Blk6.made ((w.alloc (cd3 (.bool lo.neg) (.slice A n c) (.int .i64 lo.e))).alloc (cd3 (.bool hi.neg) (.slice B m d) (.int .i64 hi.e))) (.bool lo.neg) (.slice A n c) (.int .i64 lo.e) (.bool hi.neg) (.slice B m d) (.int .i64 hi.e)
   rw [show ((w.alloc (cd3 (.bool lo.neg) (.slice A n c) (.int .i64 lo.e))).alloc (cd3 (.bool hi.neg) (.slice B m d) (.int .i64 hi.e))).heap.size=w.heap.size+1+1 by simp] at kZ
   obtain ⟨r0,r1,r2,r3,r4,r5⟩:=kZ.cell
   go_wp2_with fail
   generalize ((w.alloc (cd3 (.bool lo.neg) (.slice A n c) (.int .i64 lo.e))).alloc (cd3 (.bool hi.neg) (.slice B m d) (.int .i64 hi.e))).alloc (co6 (.bool lo.neg) (.slice A n c) (.int .i64 lo.e) (.bool hi.neg) (.slice B m d) (.int .i64 hi.e))=w1 at *
   exact bodyPost_ret (v:=spv lo.neg A n c lo.e hi.neg B m d hi.e) (by simp [results,Tryz.results125,go_sem,r0,r1,r2,r3,r4,r5]) rfl ⟨A,n,c,B,m,d,rfl,ha.below b2,hb.below b2,hW.below b2,only_of_below g b2⟩
end Go.Proofs.YtmbmohibpkepdaaGreatDoor
namespace Go.Proofs.YtmbmohibpkepdaaGreatDoor
open Go.RowKit
variable {TW:TypeId}
theorem start66 (w:World) (a b c d e f:Value):Below w.heap.size w ((w.alloc (co6 a b c d e f)).alloc z6)∧Blk6 ((w.alloc (co6 a b c d e f)).alloc z6) w.heap.size a b c d e f∧B6z ((w.alloc (co6 a b c d e f)).alloc z6) (w.heap.size+1)∧w.heap.size+2≤((w.alloc (co6 a b c d e f)).alloc z6).heap.size:=by
 have b1:=alloc_bel w (co6 a b c d e f)
 have b2:=alloc_bel (w.alloc (co6 a b c d e f)) z6
 have k1:=(Blk6.made w a b c d e f).below b2 (by simp)
 have k2:=Blk6.made (w.alloc (co6 a b c d e f)) (.bool false) (.slice none 0 0) (.int .i64 0) (.bool false) (.slice none 0 0) (.int .i64 0)
 rw [show (w.alloc (co6 a b c d e f)).heap.size=w.heap.size+1 by simp] at k2
 exact ⟨below_step b1 b2,k1,k2,by simp⟩
def one (na nb':Bool) (A B:Option Addr) (n c m d:Nat) (x y:Nat→Nat) (ea eb:Int):SPL:=⟨⟨fun _=>na,fun _=>A,fun _=>n,fun _=>c,fun _=>x,fun _=>ea⟩,⟨fun _=>nb',fun _=>B,fun _=>m,fun _=>d,fun _=>y,fun _=>eb⟩⟩
theorem sls_one (na nb':Bool) (A B:Option Addr) (n c m d:Nat) (x y:Nat→Nat) (ea eb:Int) (w:World) (ha:Sl w A n c x) (hb:Sl w B m d y) :
 SLs (w.alloc (co6 (.bool na) (.slice A n c) (.int .i64 ea) (.bool nb') (.slice B m d) (.int .i64 eb))) (some ⟨w.heap.size,0,none⟩) 1 1 (one na nb' A B n c m d x y ea eb):=by
 have bB:=alloc_bel w (co6 (.bool na) (.slice A n c) (.int .i64 ea) (.bool nb') (.slice B m d) (.int .i64 eb))
 have hcell:∀ i v,(#[.bool na,.slice A n c,.int .i64 ea,.bool nb',.slice B m d,.int .i64 eb]:Array Value)[i]?=some v→(w.alloc (co6 (.bool na) (.slice A n c) (.int .i64 ea) (.bool nb') (.slice B m d) (.int .i64 eb))).cell? ⟨w.heap.size,i,none⟩=some v:=fun i v h=>by
  rw [World.cell?_alloc_at _ _ _ _ (by simp)];exact h
 refine ⟨Nat.le_refl _,fun _=>⟨_,rfl,by simp,fun j hj=>?_⟩,fun j hj=>⟨ha.below bB,hb.below bB⟩⟩
 obtain rfl:j=0:=by omega
 exact ⟨⟨hcell 0 _ rfl,hcell 1 _ rfl,hcell 2 _ rfl⟩,⟨hcell 3 _ rfl,hcell 4 _ rfl,hcell 5 _ rfl⟩⟩
def badOne (p:Int) (bad:Bool) (na nb':Bool) (n m:Nat) (x y:Nat→Nat) (ea eb:Int):Bool:=bad || pBad p || !rightB (plainB na n x ea && plainB nb' m y eb) na nb' (vs B64 x n) (vs B64 y m) ea eb
theorem nBad_one (p:Int) (bad na nb':Bool) (A B:Option Addr) (n c m d:Nat) (x y:Nat→Nat) (ea eb:Int):nBad p bad (one na nb' A B n c m d x y ea eb) 1=badOne p bad na nb' n m x y ea eb:=by
 unfold nBad badOne rightL rightL right1 one DL.v
 rw [Bool.true_and]
theorem takes_one (na nb':Bool) (A B:Option Addr) (n c m d:Nat) (x y:Nat→Nat) (ea eb:Int) (g:Nat) (p:Int) (bad:Bool) (w:World) (hW:Wk TW w g p bad) (ha:Sl w A n c x) (hb:Sl w B m d y) (hn:n≤400000) (hm:m≤400000) :
 Calls Tryz.prog 42 #[.pointer (some ⟨g,0,none⟩),.slice (some ⟨w.heap.size,0,none⟩) 1 1] (w.alloc (co6 (.bool na) (.slice A n c) (.int .i64 ea) (.bool nb') (.slice B m d) (.int .i64 eb))) (fun e w'=>e=.returned (.bool (!badOne p bad na nb' n m x y ea eb))∧Wk TW w' g p (badOne p bad na nb' n m x y ea eb)∧Only w w' g):=by
 have b:=alloc_bel w (co6 (.bool na) (.slice A n c) (.int .i64 ea) (.bool nb') (.slice B m d) (.int .i64 eb))
 refine (takes_any _ 1 1 _ g p bad _ (hW.below b) (sls_one na nb' A B n c m d x y ea eb w ha hb) (fun j _=>⟨hn,hm⟩) (by omega)).mono ?_
 rintro e w' ⟨rfl,h1,h2⟩
 rw [nBad_one] at h1 ⊢
 exact ⟨rfl,h1,(only_of_below g b).trans h2⟩
end Go.Proofs.YtmbmohibpkepdaaGreatDoor
namespace Go.Proofs.YtmbmohibpkepdaaGreatDoor
open Go.RowKit
variable {TW:TypeId}
def twoS (b:Bool) (lo hi:DR):SRes:=if b then SRes.no else keepS false lo hi (lo.ok && hi.ok)
theorem Tab.wk {T:TypeId} {w w':World} {g:Nat} {p:Int} {bad:Bool} (h:Tab w) (k:Wk T w g p bad) (o:Only w w' g):Tab w' :=
 ⟨Nat.lt_of_lt_of_le h.1 o.size,fun j hj=>wk_cell_only k o (h.2 j hj) ⟨fun z h=>(by cases h),fun b h=>(by cases h)⟩⟩
set_option maxRecDepth 8000 in
set_option maxHeartbeats 4000000 in
theorem sneg_any (na nb':Bool) (A B:Option Addr) (n c m d:Nat) (x y:Nat→Nat) (ea eb:Int) (g:Nat) (p:Int) (bad:Bool) (w:World) (hW:Wk TW w g p bad) (ha:Sl w A n c x) (hb:Sl w B m d y) (hn:n≤400000) (hm:m≤400000) (hT:Tab w) :
 Calls Tryz.prog 69 #[.pointer (some ⟨g,0,none⟩),spv na A n c ea nb' B m d eb] w (SPost TW w g p (twoS (badOne p bad na nb' n m x y ea eb) (negD (plainB nb' m y eb) nb' m (vs B64 y m) eb) (negD (plainB na n x ea) na n (vs B64 x n) ea))):=by
 obtain ⟨bel,kA,kR,hsz⟩:=start66 w (.bool na) (.slice A n c) (.int .i64 ea) (.bool nb') (.slice B m d) (.int .i64 eb)
 have hg:=hW.2
 have hW1:=hW.below bel
 have TK0:=takes_one na nb' A B n c m d x y ea eb g p bad _ hW1 (ha.below bel) (hb.below bel) hn hm
 rw [show ((w.alloc (co6 (.bool na) (.slice A n c) (.int .i64 ea) (.bool nb') (.slice B m d) (.int .i64 eb))).alloc z6).heap.size=w.heap.size+1+1 by simp] at TK0
 have TK:=Lib.hid TK0
 clear TK0
 obtain ⟨ka0,ka1,ka2,ka3,ka4,ka5⟩:=kA.cell
 have hgs:w.heap.size < ((w.alloc (co6 (.bool na) (.slice A n c) (.int .i64 ea) (.bool nb') (.slice B m d) (.int .i64 eb))).alloc z6).heap.size:=by omega
 go_enter Tryz.func69,Tryz.ntmps69
 go_wp2_with fail
 refine TK.out.mono ?_
 generalize (w.alloc (co6 (.bool na) (.slice A n c) (.int .i64 ea) (.bool nb') (.slice B m d) (.int .i64 eb))).alloc z6=w1 at *
 rintro e' w2 ⟨rfl,hW2,o2⟩
 have kA2:=kA.only o2 (by omega) (by omega)
 have kR2:=kR.only o2 (by omega) (by omega)
 have O2:=(only_of_below g bel).trans o2
 have hsz2:w.heap.size+2≤w2.heap.size:=Nat.le_trans hsz o2.size
 clear ka0 ka1 ka2 ka3 ka4 ka5 hgs TK hW1 kA kR bel o2 hsz
 generalize badOne p bad na nb' n m x y ea eb=bo at *
 cases bo
 rotate_left
 · have kR:=kR2
   obtain ⟨s0,s1,s2,s3,s4,s5⟩:=kR.cell
   have rf:=kR.frozen
   have rf0:=rf 0
   have rf1:=rf 1
   have rf2:=rf 2
   have rf3:=rf 3
   have rf4:=rf 4
   have rf5:=rf 5
   clear rf
   go_wp2_with fail
   obtain ⟨q1,q2,q3,q4⟩:=spost_put (lo:=DR.zero) (hi:=DR.zero) (num_nil w2) (num_nil w2) hW2 O2 kR (by omega) hg
   exact bodyPost_ret (v:=spv false none 0 0 0 false none 0 0 0) (by simp [results,Tryz.results69,go_sem,s0,s1,s2,s3,s4,s5]) rfl ⟨none,0,0,none,0,0,rfl,q1,q2,q3,q4⟩
 · have D1:Hid (∀ w',Only w w' g→Calls Tryz.prog 124 #[dyv nb' B m d eb] w' (DP w' (negD (plainB nb' m y eb) nb' m (vs B64 y m) eb))):=Lib.hid (fun w' o=>(neg_any nb' B m d y eb w' (hb.wk hW o) hm (hT.wk hW o)).mono fun _ _ h=>h.dp)
   have D2:Hid (∀ w',Only w w' g→Calls Tryz.prog 124 #[dyv na A n c ea] w' (DP w' (negD (plainB na n x ea) na n (vs B64 x n) ea))):=Lib.hid (fun w' o=>(neg_any na A n c x ea w' (ha.wk hW o) hn (hT.wk hW o)).mono fun _ _ h=>h.dp)
   have HT:Hid (twoS false (negD (plainB nb' m y eb) nb' m (vs B64 y m) eb) (negD (plainB na n x ea) na n (vs B64 x n) ea)=keepS false (negD (plainB nb' m y eb) nb' m (vs B64 y m) eb) (negD (plainB na n x ea) na n (vs B64 x n) ea) ((negD (plainB nb' m y eb) nb' m (vs B64 y m) eb).ok && (negD (plainB na n x ea) na n (vs B64 x n) ea).ok)):=Lib.hid rfl
   generalize negD (plainB nb' m y eb) nb' m (vs B64 y m) eb=r1 at *
   generalize negD (plainB na n x ea) na n (vs B64 x n) ea=r2 at *
   obtain ⟨ka0,ka1,ka2,ka3,ka4,ka5⟩:=kA2.cell
   go_wp2_with fail
   refine (D1.out w2 O2).mono ?_
   rintro e' w3 ⟨A1,p1,c1,rfl,n1,b⟩
   have O3:=only_below O2 b
   have hW3:=hW2.below b
   have kA3:=kA2.below b (by omega)
   have kR3:=kR2.below b (by omega)
   have hsz3:w.heap.size+2≤w3.heap.size:=Nat.le_trans hsz2 b.size
   clear b kA2 kR2 hW2 ka0 ka1 ka2 ka3 ka4 ka5
   obtain ⟨ka0,ka1,ka2,ka3,ka4,ka5⟩:=kA3.cell
   have hgs:w.heap.size < w3.heap.size:=by omega
   go_wp2_with fail
   have b:=alloc_bel w3 (cd3 (.bool r1.neg) (.slice A1 p1 c1) (.int .i64 r1.e))
   have k1:=K3.made w3 (.bool r1.neg) (.slice A1 p1 c1) (.int .i64 r1.e)
   have O4:=only_below O3 b
   have hW4:=hW3.below b
   have kR4:=kR3.below b (by omega)
   have n14:=n1.below b
   have hsz4:w.heap.size+2≤(w3.alloc (cd3 (.bool r1.neg) (.slice A1 p1 c1) (.int .i64 r1.e))).heap.size:=Nat.le_trans hsz3 b.size
   clear b ka0 ka1 ka2 ka3 ka4 ka5 kA3 kR3 hW3 n1 hgs
   generalize w3.alloc (cd3 (.bool r1.neg) (.slice A1 p1 c1) (.int .i64 r1.e))=w4 at *
   refine (D2.out w4 O4).mono ?_
   rintro e' w5 ⟨A2,p2,c2,rfl,n2,b⟩
   have O5:=only_below O4 b
   have hW5:=hW4.below b
   have kR5:=kR4.below b (by omega)
   have n15:=n14.below b
   have k15:=k1.adv b
   have hsz5:w.heap.size+2≤w5.heap.size:=Nat.le_trans hsz4 b.size
   clear b kR4 hW4 n14 k1 D1 D2
   obtain ⟨q10,q11,q12,q13⟩:=k15.cell
   have KP:Hid (∀ w',Wk TW w' g p false→Num w' (.slice A1 p1 c1) r1.m→Num w' (.slice A2 p2 c2) r2.m→Calls Tryz.prog 125 #[.pointer (some ⟨g,0,none⟩),dyv r1.neg A1 p1 c1 r1.e,dyv r2.neg A2 p2 c2 r2.e,.bool (r1.ok && r2.ok)] w' (SPost TW w' g p (keepS false r1 r2 (r1.ok && r2.ok)))):=Lib.hid (fun w' h1 h2 h3=>keep_any g p false r1 r2 A1 A2 p1 c1 p2 c2 (r1.ok && r2.ok) w' h1 h2 h3)
   cases hr1:r1.ok
   · skip
     rw [hr1] at KP HT
     first | rw [Bool.false_and] at KP HT | rw [Bool.true_and] at KP HT
     go_wp2_with fail
     have b:=alloc_bel w5 (cd3 (.bool r2.neg) (.slice A2 p2 c2) (.int .i64 r2.e))
     have O6:=only_below O5 b
     have kR6:=kR5.below b (by omega)
     have KC:=KP.out _ (hW5.below b) (n15.below b) (n2.below b)
     have hsz6:w.heap.size+2≤(w5.alloc (cd3 (.bool r2.neg) (.slice A2 p2 c2) (.int .i64 r2.e))).heap.size:=Nat.le_trans hsz5 b.size
     refine KC.mono ?_
     clear KC b KP k15 q10 q11 q12 q13 n15 n2 hW5 kR5
     generalize w5.alloc (cd3 (.bool r2.neg) (.slice A2 p2 c2) (.int .i64 r2.e))=w6 at *
     rintro e' w7 ⟨A9,p9,c9,B9,q9,d9,rfl,m1,m2,hW7,o7⟩
     have O7:=O6.trans o7
     have kR:=kR6.only o7 (by omega) (by omega)
     clear o7 O6 kR6 O2 O3 O4 O5
     generalize keepS false r1 r2 false=r at *
     obtain ⟨s0,s1,s2,s3,s4,s5⟩:=kR.cell
     have rf:=kR.frozen
     have rf0:=rf 0
     have rf1:=rf 1
     have rf2:=rf 2
     have rf3:=rf 3
     have rf4:=rf 4
     have rf5:=rf 5
     clear rf
     go_wp2_with fail
     rw [HT.out]
     obtain ⟨q1,q2,q3,q4⟩:=spost_put (lo:=r.lo) (hi:=r.hi) m1 m2 hW7 O7 kR (by omega) hg
     exact bodyPost_ret (v:=spv r.lo.neg A9 p9 c9 r.lo.e r.hi.neg B9 q9 d9 r.hi.e) (by simp [results,Tryz.results69,go_sem,s0,s1,s2,s3,s4,s5]) rfl ⟨A9,p9,c9,B9,q9,d9,rfl,q1,q2,q3,q4⟩
   · skip
     rw [hr1] at KP HT
     first | rw [Bool.false_and] at KP HT | rw [Bool.true_and] at KP HT
     go_wp2_with fail
     have b:=alloc_bel w5 (cd3 (.bool r2.neg) (.slice A2 p2 c2) (.int .i64 r2.e))
     have O6:=only_below O5 b
     have kR6:=kR5.below b (by omega)
     have KC:=KP.out _ (hW5.below b) (n15.below b) (n2.below b)
     have hsz6:w.heap.size+2≤(w5.alloc (cd3 (.bool r2.neg) (.slice A2 p2 c2) (.int .i64 r2.e))).heap.size:=Nat.le_trans hsz5 b.size
     refine KC.mono ?_
     clear KC b KP k15 q10 q11 q12 q13 n15 n2 hW5 kR5
     generalize w5.alloc (cd3 (.bool r2.neg) (.slice A2 p2 c2) (.int .i64 r2.e))=w6 at *
     rintro e' w7 ⟨A9,p9,c9,B9,q9,d9,rfl,m1,m2,hW7,o7⟩
     have O7:=O6.trans o7
     have kR:=kR6.only o7 (by omega) (by omega)
     clear o7 O6 kR6 O2 O3 O4 O5
     generalize keepS false r1 r2 r2.ok=r at *
     obtain ⟨s0,s1,s2,s3,s4,s5⟩:=kR.cell
     have rf:=kR.frozen
     have rf0:=rf 0
     have rf1:=rf 1
     have rf2:=rf 2
     have rf3:=rf 3
     have rf4:=rf 4
     have rf5:=rf 5
     clear rf
     go_wp2_with fail
     rw [HT.out]
     obtain ⟨q1,q2,q3,q4⟩:=spost_put (lo:=r.lo) (hi:=r.hi) m1 m2 hW7 O7 kR (by omega) hg
     exact bodyPost_ret (v:=spv r.lo.neg A9 p9 c9 r.lo.e r.hi.neg B9 q9 d9 r.hi.e) (by simp [results,Tryz.results69,go_sem,s0,s1,s2,s3,s4,s5]) rfl ⟨A9,p9,c9,B9,q9,d9,rfl,q1,q2,q3,q4⟩
end Go.Proofs.YtmbmohibpkepdaaGreatDoor
namespace Go.Proofs.YtmbmohibpkepdaaGreatDoor
open Go.RowKit
variable {TW:TypeId}
def ptS (b neg:Bool) (V:Nat) (e:Int):SRes:=if b then SRes.no else ⟨false,⟨true,neg,V,e⟩,⟨true,neg,V,e⟩⟩
theorem start366 (w:World) (a b c d e f d' e' f':Value):Below w.heap.size w (((w.alloc (cd3 a b c)).alloc z6).alloc (co6 d e f d' e' f'))∧B6z (((w.alloc (cd3 a b c)).alloc z6).alloc (co6 d e f d' e' f')) (w.heap.size+1)∧Blk6 (((w.alloc (cd3 a b c)).alloc z6).alloc (co6 d e f d' e' f')) (w.heap.size+1+1) d e f d' e' f'∧w.heap.size+3≤(((w.alloc (cd3 a b c)).alloc z6).alloc (co6 d e f d' e' f')).heap.size:=by
 have b1:=alloc_bel w (cd3 a b c)
 have b2:=alloc_bel (w.alloc (cd3 a b c)) z6
 have b3:=alloc_bel ((w.alloc (cd3 a b c)).alloc z6) (co6 d e f d' e' f')
 have k2:=(Blk6.made (w.alloc (cd3 a b c)) (.bool false) (.slice none 0 0) (.int .i64 0) (.bool false) (.slice none 0 0) (.int .i64 0)).below b3 (by simp)
 have k3:=Blk6.made ((w.alloc (cd3 a b c)).alloc z6) d e f d' e' f'
 rw [show (w.alloc (cd3 a b c)).heap.size=w.heap.size+1 by simp] at k2
 rw [show ((w.alloc (cd3 a b c)).alloc z6).heap.size=w.heap.size+1+1 by simp] at k3
 exact ⟨below_step (below_step b1 b2) b3,k2,k3,by simp⟩
set_option maxRecDepth 8000 in
set_option maxHeartbeats 4000000 in
theorem point_any (na:Bool) (A:Option Addr) (n c:Nat) (x:Nat→Nat) (ea:Int) (g:Nat) (p:Int) (bad:Bool) (w:World) (hW:Wk TW w g p bad) (ha:Sl w A n c x) (hn:n≤400000) :
 Calls Tryz.prog 13 #[.pointer (some ⟨g,0,none⟩),dyv na A n c ea] w (SPost TW w g p (ptS (badOne p bad na na n n x x ea ea) na (vs B64 x n) ea)):=by
 obtain ⟨bel,kR,kP,hsz⟩:=start366 w (.bool na) (.slice A n c) (.int .i64 ea) (.bool na) (.slice A n c) (.int .i64 ea) (.bool na) (.slice A n c) (.int .i64 ea)
 have hg:=hW.2
 have hW1:=hW.below bel
 have TK0:=takes_one na na A A n c n c x x ea ea g p bad _ hW1 (ha.below bel) (ha.below bel) hn hn
 rw [show (((w.alloc (cd3 (.bool na) (.slice A n c) (.int .i64 ea))).alloc z6).alloc (co6 (.bool na) (.slice A n c) (.int .i64 ea) (.bool na) (.slice A n c) (.int .i64 ea))).heap.size=w.heap.size+1+1+1 by simp] at TK0
 have TK:=Lib.hid TK0
 clear TK0
 obtain ⟨ka0,ka1,ka2,ka3,ka4,ka5⟩:=kP.cell
 have hgs:w.heap.size+1+1 < (((w.alloc (cd3 (.bool na) (.slice A n c) (.int .i64 ea))).alloc z6).alloc (co6 (.bool na) (.slice A n c) (.int .i64 ea) (.bool na) (.slice A n c) (.int .i64 ea))).heap.size:=by omega
 have PL:Hid (badOne p bad na na n n x x ea ea=false→Num w (.slice A n c) (vs B64 x n)):=Lib.hid (fun h=>by
  have h1:rightB (plainB na n x ea && plainB na n x ea) na na (vs B64 x n) (vs B64 x n) ea ea=true:=by
   unfold badOne at h
   simp only [Bool.or_eq_false_iff] at h
   simpa using h.2
  unfold rightB at h1
  simp only [Bool.and_eq_true] at h1
  exact (plain_facts h1.1.1).num ha)
 go_enter Tryz.func13,Tryz.ntmps13
 go_wp2_with fail
 refine TK.out.mono ?_
 generalize ((w.alloc (cd3 (.bool na) (.slice A n c) (.int .i64 ea))).alloc z6).alloc (co6 (.bool na) (.slice A n c) (.int .i64 ea) (.bool na) (.slice A n c) (.int .i64 ea))=w1 at *
 rintro e' w2 ⟨rfl,hW2,o2⟩
 have kP2:=kP.only o2 (by omega) (by omega)
 have kR:=kR.only o2 (by omega) (by omega)
 have O2:=(only_of_below g bel).trans o2
 clear TK hW1 bel o2
 obtain ⟨bo,hbo⟩:∃ b:Bool,Hid (badOne p bad na na n n x x ea ea=b):=⟨_,Lib.hid rfl⟩
 rw [hbo.out] at hW2
 rw [hbo.out]
 cases bo
 · have HT:Hid (ptS (badOne p bad na na n n x x ea ea) na (vs B64 x n) ea=⟨false,⟨true,na,vs B64 x n,ea⟩,⟨true,na,vs B64 x n,ea⟩⟩):=Lib.hid (by rw [hbo.out];rfl)
   have NA:=num_wk hW O2 (PL.out hbo.out)
   clear PL hbo
   obtain ⟨kp0,kp1,kp2,kp3,kp4,kp5⟩:=kP2.cell
   obtain ⟨s0,s1,s2,s3,s4,s5⟩:=kR.cell
   have rf:=kR.frozen
   have rf0:=rf 0
   have rf1:=rf 1
   have rf2:=rf 2
   have rf3:=rf 3
   have rf4:=rf 4
   have rf5:=rf 5
   clear rf
   go_wp2_with fail
   rw [HT.out]
   obtain ⟨q1,q2,q3,q4⟩:=spost_put (lo:=(⟨true,na,vs B64 x n,ea⟩:DR)) (hi:=(⟨true,na,vs B64 x n,ea⟩:DR)) NA NA hW2 O2 kR (by omega) hg
   exact bodyPost_ret (v:=spv na A n c ea na A n c ea) (by simp [results,Tryz.results13,go_sem,s0,s1,s2,s3,s4,s5]) rfl ⟨A,n,c,A,n,c,rfl,q1,q2,q3,q4⟩
 · have HT:Hid (ptS (badOne p bad na na n n x x ea ea) na (vs B64 x n) ea=SRes.no):=Lib.hid (by rw [hbo.out];rfl)
   clear PL hbo
   obtain ⟨s0,s1,s2,s3,s4,s5⟩:=kR.cell
   have rf:=kR.frozen
   have rf0:=rf 0
   have rf1:=rf 1
   have rf2:=rf 2
   have rf3:=rf 3
   have rf4:=rf 4
   have rf5:=rf 5
   clear rf
   go_wp2_with fail
   rw [HT.out]
   obtain ⟨q1,q2,q3,q4⟩:=spost_put (lo:=DR.zero) (hi:=DR.zero) (num_nil w2) (num_nil w2) hW2 O2 kR (by omega) hg
   exact bodyPost_ret (v:=spv false none 0 0 0 false none 0 0 0) (by simp [results,Tryz.results13,go_sem,s0,s1,s2,s3,s4,s5]) rfl ⟨none,0,0,none,0,0,rfl,q1,q2,q3,q4⟩
end Go.Proofs.YtmbmohibpkepdaaGreatDoor
namespace Go.Proofs.YtmbmohibpkepdaaGreatDoor
open Go.RowKit
theorem start666 (w:World) (a b c d e f a' b' c' d' e' f':Value):Below w.heap.size w ((w.alloc (co6 a b c d e f)).alloc (co6 a' b' c' d' e' f'))∧Blk6 ((w.alloc (co6 a b c d e f)).alloc (co6 a' b' c' d' e' f')) w.heap.size a b c d e f∧Blk6 ((w.alloc (co6 a b c d e f)).alloc (co6 a' b' c' d' e' f')) (w.heap.size+1) a' b' c' d' e' f'∧w.heap.size+2≤((w.alloc (co6 a b c d e f)).alloc (co6 a' b' c' d' e' f')).heap.size:=by
 have b1:=(Below.refl w.heap.size w).alloc (Nat.le_refl _) (co6 a b c d e f)
 have b2:=alloc_bel (w.alloc (co6 a b c d e f)) (co6 a' b' c' d' e' f')
 have k1:=(Blk6.made w a b c d e f).below b2 (by simp)
 have k2:=Blk6.made (w.alloc (co6 a b c d e f)) a' b' c' d' e' f'
 rw [show (w.alloc (co6 a b c d e f)).heap.size=w.heap.size+1 by simp] at k2
 exact ⟨below_step b1 b2,k1,k2,by simp⟩
set_option maxHeartbeats 2000000 in
theorem same_span (lo hi:DR) (A B A' B':Option Addr) (n c m d n' c' m' d':Nat) (w:World) (h1:Num w (.slice A n c) lo.m) (h2:Num w (.slice B m d) hi.m) (h1':Num w (.slice A' n' c') lo.m) (h2':Num w (.slice B' m' d') hi.m) (hl:lo.m < B64^256) (hh:hi.m < B64^256) :
 Calls Tryz.prog 16 #[spv lo.neg A n c lo.e hi.neg B m d hi.e,spv lo.neg A' n' c' lo.e hi.neg B' m' d' hi.e] w (TruePost w):=by
 obtain ⟨bel,kA,kB,hsz⟩:=start666 w (.bool lo.neg) (.slice A n c) (.int .i64 lo.e) (.bool hi.neg) (.slice B m d) (.int .i64 hi.e) (.bool lo.neg) (.slice A' n' c') (.int .i64 lo.e) (.bool hi.neg) (.slice B' m' d') (.int .i64 hi.e)
 have S1:=Lib.hid (dsame_any lo.neg lo.e _ (h1.below bel) (h1'.below bel) 256 (by omega) hl)
 obtain ⟨k0,k1,k2,k3,k4,k5⟩:=kA.cell
 obtain ⟨l0,l1,l2,l3,l4,l5⟩:=kB.cell
 go_enter Tryz.func16,Tryz.ntmps16
 go_wp2_with fail
 refine S1.out.mono ?_
 generalize (w.alloc (co6 (.bool lo.neg) (.slice A n c) (.int .i64 lo.e) (.bool hi.neg) (.slice B m d) (.int .i64 hi.e))).alloc (co6 (.bool lo.neg) (.slice A' n' c') (.int .i64 lo.e) (.bool hi.neg) (.slice B' m' d') (.int .i64 hi.e))=w1 at *
 rintro e' w2 ⟨rfl,b⟩
 have B2:=below_step bel b
 have kA2:=kA.below b (by omega)
 have kB2:=kB.below b (by omega)
 clear S1 b bel kA kB k0 k1 k2 k3 k4 k5 l0 l1 l2 l3 l4 l5
 obtain ⟨k0,k1,k2,k3,k4,k5⟩:=kA2.cell
 obtain ⟨l0,l1,l2,l3,l4,l5⟩:=kB2.cell
 have S2:=Lib.hid (dsame_any hi.neg hi.e w2 (h2.below B2) (h2'.below B2) 256 (by omega) hh)
 go_wp2_with fail
 refine S2.out.mono ?_
 rintro e' w3 ⟨rfl,b⟩
 have B3:=below_step B2 b
 clear S2 b B2 kA2 kB2 k0 k1 k2 k3 k4 k5 l0 l1 l2 l3 l4 l5
 go_wp2_with fail
 go_ret
 exact ⟨rfl,B3⟩
end Go.Proofs.YtmbmohibpkepdaaGreatDoor
namespace Go.Proofs.YtmbmohibpkepdaaGreatDoor
open Go.RowKit
def signS (r na nb':Bool) (n:Nat):Int:=if r then (if n≠0∧na=false then 1 else if nb' then -1 else 0) else 0
theorem plain_zero:plainB false 0 (fun _=>0) 0=true:=by unfold plainB;simp
theorem below0 {na:Bool} {n:Nat} {x:Nat→Nat} {ea:Int} (h:plainB na n x ea=true):decide (cmpD (plainB false 0 (fun _=>0) 0 && plainB na n x ea) false na (vs B64 (fun _=>0) 0) (vs B64 x n) 0 ea < 0)=decide (n≠0∧na=false):=by
 have P:=plain_facts h
 rw [plain_zero,h,vs_zero]
 show decide (ordD false na 0 (vs B64 x n) 0 ea < 0)=_
 unfold ordD sizeC
 rw [onE_zero]
 cases na
 · simp only [if_true,Bool.false_eq_true,if_false]
   rcases Nat.eq_zero_or_pos n with h0 | h0
   · subst h0
     rw [vs_zero,onE_zero,cmpN_eq]
     simp
   · have h1:=P.pos.1 h0
     rw [cmpN_lt (onE_pos h1)]
     have:n≠0:=by omega
     simp [this]
 · simp
theorem above0 {nb':Bool} {m:Nat} {y:Nat→Nat} {eb:Int} (h:plainB nb' m y eb=true):decide (cmpD (plainB nb' m y eb && plainB false 0 (fun _=>0) 0) nb' false (vs B64 y m) (vs B64 (fun _=>0) 0) eb 0 < 0)=nb':=by
 have P:=plain_facts h
 rw [plain_zero,h,vs_zero]
 show decide (ordD nb' false (vs B64 y m) 0 eb 0 < 0)=_
 unfold ordD sizeC
 rw [onE_zero]
 cases nb'
 · simp only [if_true,Bool.false_eq_true,if_false]
   rcases Nat.eq_zero_or_pos m with h0 | h0
   · subst h0
     rw [vs_zero,onE_zero,cmpN_eq];rfl
   · have h1:=P.pos.1 h0
     rw [cmpN_gt (onE_pos h1)];rfl
 · rfl
set_option maxHeartbeats 4000000 in
theorem sign_span (na nb':Bool) (A B:Option Addr) (n c m d:Nat) (x y:Nat→Nat) (ea eb:Int) (w:World) (ha:Sl w A n c x) (hb:Sl w B m d y) (hn:n≤400000) (hm:m≤400000) :
 Calls Tryz.prog 61 #[spv na A n c ea nb' B m d eb] w
  fun o w'=>o=.returned (.int .i64 (signS (rightB (plainB na n x ea && plainB nb' m y eb) na nb' (vs B64 x n) (vs B64 y m) ea eb) na nb' n))∧Below w.heap.size w w':=by
 have bA:Below w.heap.size w (w.alloc (co6 (.bool na) (.slice A n c) (.int .i64 ea) (.bool nb') (.slice B m d) (.int .i64 eb))):=(Below.refl _ w).alloc (Nat.le_refl _) _
 have kA:=Blk6.made w (.bool na) (.slice A n c) (.int .i64 ea) (.bool nb') (.slice B m d) (.int .i64 eb)
 have hgs:w.heap.size < (w.alloc (co6 (.bool na) (.slice A n c) (.int .i64 ea) (.bool nb') (.slice B m d) (.int .i64 eb))).heap.size:=by simp
 obtain ⟨k0,k1,k2,k3,k4,k5⟩:=kA.cell
 have IR:=Lib.hid (isright_any na nb' A B n c m d x y ea eb _ (ha.below bA) (hb.below bA) hn hm)
 go_enter Tryz.func61,Tryz.ntmps61
 go_wp2_with fail
 refine IR.out.mono ?_
 generalize w.alloc (co6 (.bool na) (.slice A n c) (.int .i64 ea) (.bool nb') (.slice B m d) (.int .i64 eb))=w1 at *
 rintro e' w2 ⟨rfl,b⟩
 have B2:=bA.trans (b.mono bA.size)
 have kA2:=kA.below b hgs
 have hgs2:w.heap.size < w2.heap.size:=Nat.lt_of_lt_of_le hgs b.size
 clear IR b bA kA hgs k0 k1 k2 k3 k4 k5
 obtain ⟨R,hR⟩:∃ R:Bool,Hid (rightB (plainB na n x ea && plainB nb' m y eb) na nb' (vs B64 x n) (vs B64 y m) ea eb=R):=⟨_,Lib.hid rfl⟩
 rw [hR.out]
 cases R
 · have HS:Hid (signS (rightB (plainB na n x ea && plainB nb' m y eb) na nb' (vs B64 x n) (vs B64 y m) ea eb) na nb' n=0):=Lib.hid (by rw [hR.out];rfl)
   clear hR
   go_wp2_with fail
   go_ret
   exact ⟨by rw [HS.out];rfl,B2⟩
 · have hpp:plainB na n x ea=true∧plainB nb' m y eb=true:=by
    have:=hR.out
    unfold rightB at this
    simp only [Bool.and_eq_true] at this
    exact this.1
   have IB:=isbelow_any false na none A 0 0 n c (fun _=>0) x 0 ea w2 (Sl.none_ _ _ _ _) (ha.below B2) (by omega) hn
   rw [below0 hpp.1] at IB
   have HIB:=Lib.hid IB
   clear IB
   obtain ⟨k0,k1,k2,k3,k4,k5⟩:=kA2.cell
   go_wp2_with fail
   refine HIB.out.mono ?_
   rintro e' w3 ⟨rfl,b⟩
   have B3:=B2.trans (b.mono B2.size)
   have kA3:=kA2.below b hgs2
   clear HIB b B2 kA2 hgs2 k0 k1 k2 k3 k4 k5
   by_cases h1:n≠0∧na=false
   · have HS:Hid (signS (rightB (plainB na n x ea && plainB nb' m y eb) na nb' (vs B64 x n) (vs B64 y m) ea eb) na nb' n=1):=Lib.hid (by rw [hR.out];simp [signS,h1])
     rw [show decide (n≠0∧na=false)=true by simp [h1]]
     clear hR h1
     go_wp2_with fail
     go_ret
     exact ⟨by rw [HS.out];rfl,B3⟩
   · have HS:Hid (signS (rightB (plainB na n x ea && plainB nb' m y eb) na nb' (vs B64 x n) (vs B64 y m) ea eb) na nb' n=if nb' then -1 else 0):=Lib.hid (by rw [hR.out];unfold signS;rw [if_pos rfl,if_neg h1])
     rw [show decide (n≠0∧na=false)=false by simpa using h1]
     have IB:=isbelow_any nb' false B none m d 0 0 y (fun _=>0) eb 0 w3 (hb.below B3) (Sl.none_ _ _ _ _) hm (by omega)
     rw [above0 hpp.2] at IB
     have HIB:=Lib.hid IB
     clear IB hR h1
     obtain ⟨k0,k1,k2,k3,k4,k5⟩:=kA3.cell
     go_wp2_with fail
     refine HIB.out.mono ?_
     rintro e' w4 ⟨rfl,b⟩
     have B4:=B3.trans (b.mono B3.size)
     clear HIB b B3 kA3 k0 k1 k2 k3 k4 k5
     cases nb'
     · go_wp2_with fail
       go_ret
       exact ⟨by rw [HS.out];rfl,B4⟩
     · go_wp2_with fail
       go_ret
       exact ⟨by rw [HS.out];rfl,B4⟩
end Go.Proofs.YtmbmohibpkepdaaGreatDoor
