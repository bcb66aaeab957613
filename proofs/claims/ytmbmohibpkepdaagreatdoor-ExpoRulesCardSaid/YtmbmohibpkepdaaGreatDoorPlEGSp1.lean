/-
 span: isRight, isBelow, Sign; volvelleref03: Right, Sign. A span is six cells: two dyads.
 span.Work in memory: takes, and volvelleref03's take, over a list of spans.
 span.Work.takes, volvelleref03's take: does a work go on with these spans?
-/
import Derived.Test.YtmbmohibpkepdaaGreatDoorPlEGDy3
import Derived.Test.YtmbmohibpkepdaaGreatDoorPlEGDy5
import Derived.Test.YtmbmohibpkepdaaGreatDoorPlEGDy9
namespace Go.Proofs.YtmbmohibpkepdaaGreatDoor
open Go.RowKit
abbrev spv (na:Bool) (A:Option Addr) (n c:Nat) (ea:Int) (nb':Bool) (B:Option Addr) (m d:Nat) (eb:Int):Value :=
 .agg #[.bool na,.slice A n c,.int .i64 ea,.bool nb',.slice B m d,.int .i64 eb]
def rightB (ok na nb':Bool) (Va Vb:Nat) (ea eb:Int):Bool:=ok && decide (ordD na nb' Va Vb ea eb≤0)
abbrev co6 (a b c d e f:Value):Obj:=.cells #[a,b,c,d,e,f] 31
def Blk6 (w:World) (g:Nat) (a b c d e f:Value):Prop:=w.heap[g]?=some (.cells #[a,b,c,d,e,f] 31 (0,0))
theorem Blk6.made (w:World) (a b c d e f:Value):Blk6 (w.alloc (co6 a b c d e f)) w.heap.size a b c d e f:=heap_alloc_new w _
theorem Blk6.below {w w':World} {g B:Nat} {a b c d e f:Value} (h:Blk6 w g a b c d e f) (hb:Below B w w') (hg:g < B):Blk6 w' g a b c d e f:=(hb.block g hg).trans h
theorem Blk6.cell {w:World} {g:Nat} {a b c d e f:Value} (h:Blk6 w g a b c d e f):w.cell? ⟨g,0,none⟩=some a∧w.cell? ⟨g,1,none⟩=some b∧w.cell? ⟨g,2,none⟩=some c∧w.cell? ⟨g,3,none⟩=some d∧w.cell? ⟨g,4,none⟩=some e∧w.cell? ⟨g,5,none⟩=some f:=by
 unfold Blk6 at h
 simp [World.cell?,h]
theorem Blk6.frozen {w:World} {g:Nat} {a b c d e f:Value} (h:Blk6 w g a b c d e f) (i:Nat):w.frozen? ⟨g,i,none⟩=false:=by
 unfold Blk6 at h
 simp [World.frozen?,h]
set_option maxHeartbeats 2000000 in
theorem isright_any (na nb':Bool) (A B:Option Addr) (n c m d:Nat) (x y:Nat→Nat) (ea eb:Int) (w:World) (ha:Sl w A n c x) (hb:Sl w B m d y) (hn:n≤400000) (hm:m≤400000) :
 Calls Tryz.prog 85 #[spv na A n c ea nb' B m d eb] w
  fun o w'=>o=.returned (.bool (rightB (plainB na n x ea && plainB nb' m y eb) na nb' (vs B64 x n) (vs B64 y m) ea eb))∧Below w.heap.size w w':=by
 have bA:Below w.heap.size w (w.alloc (co6 (.bool na) (.slice A n c) (.int .i64 ea) (.bool nb') (.slice B m d) (.int .i64 eb))):=(Below.refl _ w).alloc (Nat.le_refl _) _
 have kA:=(Blk6.made w (.bool na) (.slice A n c) (.int .i64 ea) (.bool nb') (.slice B m d) (.int .i64 eb)).cell
 obtain ⟨k0,k1,k2,k3,k4,k5⟩:=kA
 have CM:=Lib.hid (dcmp_any na nb' A B n c m d x y ea eb _ (ha.below bA) (hb.below bA) hn hm)
 have HR:Hid (rightB (plainB na n x ea && plainB nb' m y eb) na nb' (vs B64 x n) (vs B64 y m) ea eb=((plainB na n x ea && plainB nb' m y eb) && decide (cmpD (plainB na n x ea && plainB nb' m y eb) na nb' (vs B64 x n) (vs B64 y m) ea eb≤0))):=Lib.hid (by
  unfold rightB cmpD
  cases (plainB na n x ea && plainB nb' m y eb) <;> simp)
 rw [HR.out]
 generalize cmpD (plainB na n x ea && plainB nb' m y eb) na nb' (vs B64 x n) (vs B64 y m) ea eb=z at *
 generalize (plainB na n x ea && plainB nb' m y eb)=ok at *
 clear HR
 go_enter Tryz.func85,Tryz.ntmps85
 go_wp2_with fail
 refine CM.out.mono ?_
 rintro e' w2 ⟨rfl,b⟩
 have B2:=bA.trans (b.mono bA.size)
 clear CM b bA k0 k1 k2 k3 k4 k5
 cases ok
 · go_wp2_with fail
   go_ret
   exact ⟨rfl,B2⟩
 · go_wp2_with fail
   go_ret
   exact ⟨by simp,B2⟩
set_option maxHeartbeats 2000000 in
theorem rright_any (na nb':Bool) (A B:Option Addr) (n c m d:Nat) (x y:Nat→Nat) (ea eb:Int) (w:World) (ha:Sl w A n c x) (hb:Sl w B m d y) (hn:n≤400000) (hm:m≤400000) :
 Calls Tryz.prog 24 #[spv na A n c ea nb' B m d eb] w
  fun o w'=>o=.returned (.bool (rightB (plainB na n x ea && plainB nb' m y eb) na nb' (vs B64 x n) (vs B64 y m) ea eb))∧Below w.heap.size w w':=by
 have bA:Below w.heap.size w (w.alloc (co6 (.bool na) (.slice A n c) (.int .i64 ea) (.bool nb') (.slice B m d) (.int .i64 eb))):=(Below.refl _ w).alloc (Nat.le_refl _) _
 have kA:=(Blk6.made w (.bool na) (.slice A n c) (.int .i64 ea) (.bool nb') (.slice B m d) (.int .i64 eb)).cell
 obtain ⟨k0,k1,k2,k3,k4,k5⟩:=kA
 have CM:=Lib.hid (rcmpD_any na nb' A B n c m d x y ea eb _ (ha.below bA) (hb.below bA) hn hm)
 have HR:Hid (rightB (plainB na n x ea && plainB nb' m y eb) na nb' (vs B64 x n) (vs B64 y m) ea eb=((plainB na n x ea && plainB nb' m y eb) && decide (cmpD (plainB na n x ea && plainB nb' m y eb) na nb' (vs B64 x n) (vs B64 y m) ea eb≤0))):=Lib.hid (by
  unfold rightB cmpD
  cases (plainB na n x ea && plainB nb' m y eb) <;> simp)
 rw [HR.out]
 generalize cmpD (plainB na n x ea && plainB nb' m y eb) na nb' (vs B64 x n) (vs B64 y m) ea eb=z at *
 generalize (plainB na n x ea && plainB nb' m y eb)=ok at *
 clear HR
 go_enter Tryz.func24,Tryz.ntmps24
 go_wp2_with fail
 refine CM.out.mono ?_
 rintro e' w2 ⟨rfl,b⟩
 have B2:=bA.trans (b.mono bA.size)
 clear CM b bA k0 k1 k2 k3 k4 k5
 cases ok
 · go_wp2_with fail
   go_ret
   exact ⟨rfl,B2⟩
 · go_wp2_with fail
   go_ret
   exact ⟨by simp,B2⟩
theorem isbelow_any (na nb':Bool) (A B:Option Addr) (n c m d:Nat) (x y:Nat→Nat) (ea eb:Int) (w:World) (ha:Sl w A n c x) (hb:Sl w B m d y) (hn:n≤400000) (hm:m≤400000) :
 Calls Tryz.prog 113 #[dyv na A n c ea,dyv nb' B m d eb] w
  fun o w'=>o=.returned (.bool (decide (cmpD (plainB na n x ea && plainB nb' m y eb) na nb' (vs B64 x n) (vs B64 y m) ea eb < 0)))∧Below w.heap.size w w':=by
 have S:=FA.start w na A n c ea nb' B m d eb
 have CM:=Lib.hid (dcmp_any na nb' A B n c m d x y ea eb _ (ha.below S.bel) (hb.below S.bel) hn hm)
 generalize cmpD (plainB na n x ea && plainB nb' m y eb) na nb' (vs B64 x n) (vs B64 y m) ea eb=z at *
 generalize (plainB na n x ea && plainB nb' m y eb)=ok at *
 go_enter Tryz.func113,Tryz.ntmps113
 go_wp2_with fail
 refine CM.out.mono ?_
 rintro e' w2 ⟨rfl,b⟩
 have F:=S.adv b
 have B2:=F.bel
 clear S b F CM
 go_wp2_with fail
 go_ret
 exact ⟨rfl,B2⟩
end Go.Proofs.YtmbmohibpkepdaaGreatDoor
namespace Go.Proofs.YtmbmohibpkepdaaGreatDoor
open Go.RowKit
def Wk (T:TypeId) (w:World) (g:Nat) (p:Int) (bad:Bool):Prop:=w.heap[g]?=some (.cells #[.int .i64 p,.bool bad] T (0,0))∧g < w.heap.size
theorem Wk.cell {T:TypeId} {w:World} {g:Nat} {p:Int} {bad:Bool} (h:Wk T w g p bad):w.cell? ⟨g,0,none⟩=some (.int .i64 p)∧w.cell? ⟨g,1,none⟩=some (.bool bad):=by
 have h1:=h.1
 constructor <;> simp [World.cell?,h1]
theorem Wk.frozen {T:TypeId} {w:World} {g:Nat} {p:Int} {bad:Bool} (h:Wk T w g p bad) (i:Nat):w.frozen? ⟨g,i,none⟩=false:=by
 have h1:=h.1
 simp [World.frozen?,h1]
theorem Wk.below {T:TypeId} {w w':World} {g:Nat} {p:Int} {bad:Bool} (h:Wk T w g p bad) (b:Below w.heap.size w w'):Wk T w' g p bad:=⟨(b.block g h.2).trans h.1,Nat.lt_of_lt_of_le h.2 b.size⟩
theorem Wk.set1 {T:TypeId} {w:World} {g:Nat} {p:Int} {bad:Bool} (h:Wk T w g p bad) (b:Bool):Wk T (w.setCell ⟨g,1,none⟩ (.bool b)) g p b:=by
 obtain ⟨h1,h2⟩:=h
 refine ⟨?_,by simpa [World.setCell] using h2⟩
 simp [World.setCell,Array.getElem?_modify,h1]
theorem Wk.only {T:TypeId} {w w':World} {g g':Nat} {p:Int} {bad:Bool} (h:Wk T w g p bad) (o:Only w w' g') (hne:g≠g'):Wk T w' g p bad:=⟨(o.block g h.2 (by simpa using hne)).trans h.1,Nat.lt_of_lt_of_le h.2 o.size⟩
theorem only_of_below {w w':World} (g:Nat) (b:Below w.heap.size w w'):Only w w' g:=⟨b.os,b.tape,b.output,b.size,fun i hi _=>b.block i hi⟩
theorem only_below {w w1 w2:World} {g:Nat} (o:Only w w1 g) (b:Below w1.heap.size w1 w2):Only w w2 g:=o.trans (only_of_below g b)
theorem wk_cell_only {T:TypeId} {w w':World} {g:Nat} {p:Int} {bad:Bool} (k:Wk T w g p bad) (o:Only w w' g) {a:Addr} {v:Value} (h:w.cell? a=some v) (hv:(∀ z,v≠.int .i64 z)∧∀ b,v≠.bool b):w'.cell? a=some v:=by
 have hne:a.block≠g:=fun e=>by
  have h1:=k.1
  simp only [World.cell?,e,h1] at h
  split at h
  · cases h
  · rcases h3:a.off with _ | _ | i
    · rw [h3] at h;simp at h;exact hv.1 _ h.symm
    · rw [h3] at h;simp at h;exact hv.2 _ h.symm
    · rw [h3] at h;simp at h
 have hb:=World.block_lt_of_cell? _ _ h
 exact (World.cell?_of_block (o.block _ hb (by simpa using hne))).trans h
theorem wk_apart {T:TypeId} {w:World} {g:Nat} {p:Int} {bad:Bool} (k:Wk T w g p bad) {a:Addr} {v:Value} (h:w.cell? a=some v) (hv:(∀ z,v≠.int .i64 z)∧∀ b,v≠.bool b):a.block≠g:=fun e=>by
 have h1:=k.1
 simp only [World.cell?,e,h1] at h
 split at h
 · cases h
 · rcases h3:a.off with _ | _ | i
   · rw [h3] at h;simp at h;exact hv.1 _ h.symm
   · rw [h3] at h;simp at h;exact hv.2 _ h.symm
   · rw [h3] at h;simp at h
theorem Sl.wk {T:TypeId} {w w':World} {g:Nat} {p:Int} {bad:Bool} (k:Wk T w g p bad) (o:Only w w' g) {A:Option Addr} {n c:Nat} {f:Nat→Nat} (h:Sl w A n c f):Sl w' A n c f :=
 h.only o fun hn ad e=>by
  obtain ⟨ad',e',_,_,hc⟩:=h.at_ (k:=0) hn
  rw [e] at e'
  injection e' with e'
  subst e'
  rw [show ad.add 0=ad from by simp [Addr.add]] at hc
  exact wk_apart k hc ⟨fun z h=>(by cases h),fun b h=>(by cases h)⟩
structure SPL where
 lo:DL
 hi:DL
def SLs (w:World) (L:Option Addr) (k cp:Nat) (l:SPL):Prop :=
 k≤cp∧(0 < k→∃ ad,L=some ad∧ad.block < w.heap.size∧∀ j,j < k →
  (w.cell? (ad.add (j*6))=some (.bool (l.lo.ng j))∧w.cell? ⟨(ad.add (j*6)).block,(ad.add (j*6)).off+1,none⟩=some (.slice (l.lo.A j) (l.lo.n j) (l.lo.c j))∧w.cell? ⟨(ad.add (j*6)).block,(ad.add (j*6)).off+2,none⟩=some (.int .i64 (l.lo.e j))) ∧
  (w.cell? ⟨(ad.add (j*6)).block,(ad.add (j*6)).off+3,none⟩=some (.bool (l.hi.ng j))∧w.cell? ⟨(ad.add (j*6)).block,(ad.add (j*6)).off+4,none⟩=some (.slice (l.hi.A j) (l.hi.n j) (l.hi.c j))∧w.cell? ⟨(ad.add (j*6)).block,(ad.add (j*6)).off+5,none⟩=some (.int .i64 (l.hi.e j)))) ∧
  ∀ j,j < k→Sl w (l.lo.A j) (l.lo.n j) (l.lo.c j) (l.lo.x j)∧Sl w (l.hi.A j) (l.hi.n j) (l.hi.c j) (l.hi.x j)
theorem SLs.below {w w':World} {L:Option Addr} {k cp:Nat} {l:SPL} (h:SLs w L k cp l) (b:Below w.heap.size w w'):SLs w' L k cp l:=by
 obtain ⟨h1,h2,h3⟩:=h
 refine ⟨h1,fun hk=>?_,fun j hj=>⟨(h3 j hj).1.below b,(h3 j hj).2.below b⟩⟩
 obtain ⟨ad,e,hb,hc⟩:=h2 hk
 refine ⟨ad,e,Nat.lt_of_lt_of_le hb b.size,fun j hj=>?_⟩
 obtain ⟨⟨c0,c1,c2⟩,⟨c3,c4,c5⟩⟩:=hc j hj
 exact ⟨⟨(b.cell (by rw [block_of_add];exact hb)).trans c0,(b.cell (by simp only [block_of_add];exact hb)).trans c1,(b.cell (by simp only [block_of_add];exact hb)).trans c2⟩,
  ⟨(b.cell (by simp only [block_of_add];exact hb)).trans c3,(b.cell (by simp only [block_of_add];exact hb)).trans c4,(b.cell (by simp only [block_of_add];exact hb)).trans c5⟩⟩
theorem SLs.wk {T:TypeId} {w w':World} {g:Nat} {p:Int} {bad:Bool} (kw:Wk T w g p bad) (o:Only w w' g) {L:Option Addr} {k cp:Nat} {l:SPL} (h:SLs w L k cp l):SLs w' L k cp l:=by
 obtain ⟨h1,h2,h3⟩:=h
 refine ⟨h1,fun hk=>?_,fun j hj=>⟨(h3 j hj).1.wk kw o,(h3 j hj).2.wk kw o⟩⟩
 obtain ⟨ad,e,hb,hc⟩:=h2 hk
 have hne:ad.block≠g:=by
  have h4:=wk_apart kw (hc 0 hk).1.2.1 ⟨fun z h=>(by cases h),fun b h=>(by cases h)⟩
  simpa only [block_of_add] using h4
 have hs:∀ a:Addr,a.block=ad.block→w'.cell? a=w.cell? a:=fun a ha=>World.cell?_of_block (o.block _ (by rw [ha];exact hb) (by rw [ha];simpa using hne))
 refine ⟨ad,e,Nat.lt_of_lt_of_le hb o.size,fun j hj=>?_⟩
 obtain ⟨⟨c0,c1,c2⟩,⟨c3,c4,c5⟩⟩:=hc j hj
 exact ⟨⟨(hs _ (block_of_add _ _)).trans c0,(hs _ (by simp only [block_of_add])).trans c1,(hs _ (by simp only [block_of_add])).trans c2⟩,⟨(hs _ (by simp only [block_of_add])).trans c3,(hs _ (by simp only [block_of_add])).trans c4,(hs _ (by simp only [block_of_add])).trans c5⟩⟩
def right1 (l:SPL) (j:Nat):Bool:=rightB (plainB (l.lo.ng j) (l.lo.n j) (l.lo.x j) (l.lo.e j) && plainB (l.hi.ng j) (l.hi.n j) (l.hi.x j) (l.hi.e j)) (l.lo.ng j) (l.hi.ng j) (l.lo.v j) (l.hi.v j) (l.lo.e j) (l.hi.e j)
def rightL (l:SPL):Nat→Bool
 | 0=>true
 | k+1=>rightL l k && right1 l k
def pBad (p:Int):Bool:=decide (p < 1) || decide (8192 < p)
end Go.Proofs.YtmbmohibpkepdaaGreatDoor
namespace Go.Proofs.YtmbmohibpkepdaaGreatDoor
open Go.RowKit
variable {TW:TypeId}
def nBad (p:Int) (bad:Bool) (l:SPL) (k:Nat):Bool:=bad || pBad p || !rightL l k
def TakeP (T:TypeId) (w:World) (g:Nat) (p:Int) (nb:Bool) (e:Ending) (w':World):Prop:=e=.returned (.bool (!nb))∧Wk T w' g p nb∧Only w w' g
theorem only_set1 (w:World) (g:Nat) (v:Value):Only w (w.setCell ⟨g,1,none⟩ v) g:=(Only.refl w g).set_ 1 v
theorem alloc_bel6 (w:World) (a b c d e f:Value):Below w.heap.size w (w.alloc (co6 a b c d e f)):=(Below.refl _ w).alloc (Nat.le_refl _) _
set_option maxRecDepth 8000 in
set_option maxHeartbeats 8000000 in
theorem takes_any (L:Option Addr) (k cp:Nat) (l:SPL) (g:Nat) (p:Int) (bad:Bool) (w:World) (hW:Wk TW w g p bad) (h:SLs w L k cp l) (hlen:∀ j,j < k→l.lo.n j≤400000∧l.hi.n j≤400000) (hk:k≤9223372036854775807) :
 Calls Tryz.prog 42 #[.pointer (some ⟨g,0,none⟩),.slice L k cp] w (TakeP TW w g p (nBad p bad l k)):=by
 have HLEN:=Lib.hid hlen
 clear hlen
 obtain ⟨kw0,kw1⟩:=hW.cell
 have kwf:=hW.frozen 1
 go_enter Tryz.func42,Tryz.ntmps42
 cases bad
 · by_cases h1:p < 1
   · have HNB:Hid (nBad p false l k=true):=Lib.hid (by unfold nBad;rw [show pBad p=true by unfold pBad;simp;omega];simp)
     have KW1:Wk TW (w.setCell ⟨g,1,none⟩ (.bool true)) g p (true):=hW.set1 true
     have O1:=only_set1 w g (.bool true)
     go_wp2_with fail
     generalize w.setCell ⟨g,1,none⟩ (.bool true)=w1 at *
     clear kw0 kw1 kwf
     go_loopw [32] (fun s32 wr=>∃ j:Nat,j≤k∧s32=.int .i64 (j:Int)∧Wk TW wr g p (true)∧Only w wr g) (fun s32 _=>k-(intOf s32).toNat)
     case atStart=>exact ⟨0,Nat.zero_le _,rfl,KW1,O1⟩
     case round =>
      clear KW1 O1
      obtain ⟨j,hj,rfl,KW,O⟩:=hrel
      by_cases hlt:j < k
      · have hlt':(j:Int) < (k:Int):=by omega
        have HS:=h.wk hW O
        have hln:=HLEN.out j hlt
        obtain ⟨ad,rfl,hb,hc⟩:=(HS).2.1 (by omega)
        obtain ⟨⟨d0,d1,d2⟩,⟨d3,d4,d5⟩⟩:=hc j hlt
        obtain ⟨sl,sh⟩:=(HS).2.2 j hlt
        clear hc
        have bA:=alloc_bel6 wr (.bool (l.lo.ng j)) (.slice (l.lo.A j) (l.lo.n j) (l.lo.c j)) (.int .i64 (l.lo.e j)) (.bool (l.hi.ng j)) (.slice (l.hi.A j) (l.hi.n j) (l.hi.c j)) (.int .i64 (l.hi.e j))
        have kA:=(Blk6.made wr (.bool (l.lo.ng j)) (.slice (l.lo.A j) (l.lo.n j) (l.lo.c j)) (.int .i64 (l.lo.e j)) (.bool (l.hi.ng j)) (.slice (l.hi.A j) (l.hi.n j) (l.hi.c j)) (.int .i64 (l.hi.e j))).cell
        obtain ⟨ka0,ka1,ka2,ka3,ka4,ka5⟩:=kA
        have KA:=KW.below bA
        have OA:=only_below O bA
        have IR:=Lib.hid (isright_any (l.lo.ng j) (l.hi.ng j) (l.lo.A j) (l.hi.A j) (l.lo.n j) (l.lo.c j) (l.hi.n j) (l.hi.c j) (l.lo.x j) (l.hi.x j) (l.lo.e j) (l.hi.e j) _ (sl.below bA) (sh.below bA) hln.1 hln.2)
        have HR:Hid (rightL l (j+1)=(rightL l j && right1 l j)):=Lib.hid rfl
        have HR1:Hid (rightB (plainB (l.lo.ng j) (l.lo.n j) (l.lo.x j) (l.lo.e j) && plainB (l.hi.ng j) (l.hi.n j) (l.hi.x j) (l.hi.e j)) (l.lo.ng j) (l.hi.ng j) (vs B64 (l.lo.x j) (l.lo.n j)) (vs B64 (l.hi.x j) (l.hi.n j)) (l.lo.e j) (l.hi.e j)=right1 l j):=Lib.hid rfl
        rw [HR1.out] at IR
        obtain ⟨kw0,kw1⟩:=KA.cell
        have kwf:=KA.frozen 1
        clear HR1 HS bA KW O sl sh
        go_wp2_with fail
        go_roundw
        case rel=>exact ⟨j+1,by omega,by go_num,KA.set1 true,OA.trans (only_set1 _ g _)⟩
        case measure=>simp [intOf];omega
      · obtain rfl:j=k:=by omega
        have hlt':¬ (j:Int) < (j:Int):=by omega
        obtain ⟨kw0,kw1⟩:=KW.cell
        go_wp2_with fail
        go_ret
        exact ⟨by rw [HNB.out];first | rfl | (rw [Bool.not_not];rfl),by rw [HNB.out];exact KW,O⟩
   · by_cases h2:8192 < p
     · have HNB:Hid (nBad p false l k=true):=Lib.hid (by unfold nBad;rw [show pBad p=true by unfold pBad;simp;omega];simp)
       have KW1:Wk TW (w.setCell ⟨g,1,none⟩ (.bool true)) g p (true):=hW.set1 true
       have O1:=only_set1 w g (.bool true)
       go_wp2_with fail
       generalize w.setCell ⟨g,1,none⟩ (.bool true)=w1 at *
       clear kw0 kw1 kwf
       go_loopw [32] (fun s32 wr=>∃ j:Nat,j≤k∧s32=.int .i64 (j:Int)∧Wk TW wr g p (true)∧Only w wr g) (fun s32 _=>k-(intOf s32).toNat)
       case atStart=>exact ⟨0,Nat.zero_le _,rfl,KW1,O1⟩
       case round =>
        clear KW1 O1
        obtain ⟨j,hj,rfl,KW,O⟩:=hrel
        by_cases hlt:j < k
        · have hlt':(j:Int) < (k:Int):=by omega
          have HS:=h.wk hW O
          have hln:=HLEN.out j hlt
          obtain ⟨ad,rfl,hb,hc⟩:=(HS).2.1 (by omega)
          obtain ⟨⟨d0,d1,d2⟩,⟨d3,d4,d5⟩⟩:=hc j hlt
          obtain ⟨sl,sh⟩:=(HS).2.2 j hlt
          clear hc
          have bA:=alloc_bel6 wr (.bool (l.lo.ng j)) (.slice (l.lo.A j) (l.lo.n j) (l.lo.c j)) (.int .i64 (l.lo.e j)) (.bool (l.hi.ng j)) (.slice (l.hi.A j) (l.hi.n j) (l.hi.c j)) (.int .i64 (l.hi.e j))
          have kA:=(Blk6.made wr (.bool (l.lo.ng j)) (.slice (l.lo.A j) (l.lo.n j) (l.lo.c j)) (.int .i64 (l.lo.e j)) (.bool (l.hi.ng j)) (.slice (l.hi.A j) (l.hi.n j) (l.hi.c j)) (.int .i64 (l.hi.e j))).cell
          obtain ⟨ka0,ka1,ka2,ka3,ka4,ka5⟩:=kA
          have KA:=KW.below bA
          have OA:=only_below O bA
          have IR:=Lib.hid (isright_any (l.lo.ng j) (l.hi.ng j) (l.lo.A j) (l.hi.A j) (l.lo.n j) (l.lo.c j) (l.hi.n j) (l.hi.c j) (l.lo.x j) (l.hi.x j) (l.lo.e j) (l.hi.e j) _ (sl.below bA) (sh.below bA) hln.1 hln.2)
          have HR:Hid (rightL l (j+1)=(rightL l j && right1 l j)):=Lib.hid rfl
          have HR1:Hid (rightB (plainB (l.lo.ng j) (l.lo.n j) (l.lo.x j) (l.lo.e j) && plainB (l.hi.ng j) (l.hi.n j) (l.hi.x j) (l.hi.e j)) (l.lo.ng j) (l.hi.ng j) (vs B64 (l.lo.x j) (l.lo.n j)) (vs B64 (l.hi.x j) (l.hi.n j)) (l.lo.e j) (l.hi.e j)=right1 l j):=Lib.hid rfl
          rw [HR1.out] at IR
          obtain ⟨kw0,kw1⟩:=KA.cell
          have kwf:=KA.frozen 1
          clear HR1 HS bA KW O sl sh
          go_wp2_with fail
          go_roundw
          case rel=>exact ⟨j+1,by omega,by go_num,KA.set1 true,OA.trans (only_set1 _ g _)⟩
          case measure=>simp [intOf];omega
        · obtain rfl:j=k:=by omega
          have hlt':¬ (j:Int) < (j:Int):=by omega
          obtain ⟨kw0,kw1⟩:=KW.cell
          go_wp2_with fail
          go_ret
          exact ⟨by rw [HNB.out];first | rfl | (rw [Bool.not_not];rfl),by rw [HNB.out];exact KW,O⟩
     · have HNB:Hid (nBad p false l k=!rightL l k):=Lib.hid (by unfold nBad;rw [show pBad p=false by unfold pBad;simp;omega];simp)
       have KW1:Wk TW (w.setCell ⟨g,1,none⟩ (.bool false)) g p (!rightL l 0):=hW.set1 false
       have O1:=only_set1 w g (.bool false)
       go_wp2_with fail
       generalize w.setCell ⟨g,1,none⟩ (.bool false)=w1 at *
       clear kw0 kw1 kwf
       go_loopw [32] (fun s32 wr=>∃ j:Nat,j≤k∧s32=.int .i64 (j:Int)∧Wk TW wr g p (!rightL l j)∧Only w wr g) (fun s32 _=>k-(intOf s32).toNat)
       case atStart=>exact ⟨0,Nat.zero_le _,rfl,KW1,O1⟩
       case round =>
        clear KW1 O1
        obtain ⟨j,hj,rfl,KW,O⟩:=hrel
        by_cases hlt:j < k
        · have hlt':(j:Int) < (k:Int):=by omega
          have HS:=h.wk hW O
          have hln:=HLEN.out j hlt
          obtain ⟨ad,rfl,hb,hc⟩:=(HS).2.1 (by omega)
          obtain ⟨⟨d0,d1,d2⟩,⟨d3,d4,d5⟩⟩:=hc j hlt
          obtain ⟨sl,sh⟩:=(HS).2.2 j hlt
          clear hc
          have bA:=alloc_bel6 wr (.bool (l.lo.ng j)) (.slice (l.lo.A j) (l.lo.n j) (l.lo.c j)) (.int .i64 (l.lo.e j)) (.bool (l.hi.ng j)) (.slice (l.hi.A j) (l.hi.n j) (l.hi.c j)) (.int .i64 (l.hi.e j))
          have kA:=(Blk6.made wr (.bool (l.lo.ng j)) (.slice (l.lo.A j) (l.lo.n j) (l.lo.c j)) (.int .i64 (l.lo.e j)) (.bool (l.hi.ng j)) (.slice (l.hi.A j) (l.hi.n j) (l.hi.c j)) (.int .i64 (l.hi.e j))).cell
          obtain ⟨ka0,ka1,ka2,ka3,ka4,ka5⟩:=kA
          have KA:=KW.below bA
          have OA:=only_below O bA
          have IR:=Lib.hid (isright_any (l.lo.ng j) (l.hi.ng j) (l.lo.A j) (l.hi.A j) (l.lo.n j) (l.lo.c j) (l.hi.n j) (l.hi.c j) (l.lo.x j) (l.hi.x j) (l.lo.e j) (l.hi.e j) _ (sl.below bA) (sh.below bA) hln.1 hln.2)
          have HR:Hid (rightL l (j+1)=(rightL l j && right1 l j)):=Lib.hid rfl
          have HR1:Hid (rightB (plainB (l.lo.ng j) (l.lo.n j) (l.lo.x j) (l.lo.e j) && plainB (l.hi.ng j) (l.hi.n j) (l.hi.x j) (l.hi.e j)) (l.lo.ng j) (l.hi.ng j) (vs B64 (l.lo.x j) (l.lo.n j)) (vs B64 (l.hi.x j) (l.hi.n j)) (l.lo.e j) (l.hi.e j)=right1 l j):=Lib.hid rfl
          rw [HR1.out] at IR
          obtain ⟨kw0,kw1⟩:=KA.cell
          have kwf:=KA.frozen 1
          clear HR1 HS bA KW O sl sh
          cases hrl:rightL l j
          · rw [hrl] at KA kw1
            rw [hrl] at HR
            have HN:Hid (rightL l (j+1)=false):=Lib.hid (HR.out.trans (by simp))
            clear IR HR
            go_wp2_with fail
            go_roundw
            case rel=>exact ⟨j+1,by omega,by go_num,by rw [HN.out];exact KA.set1 true,OA.trans (only_set1 _ g _)⟩
            case measure=>simp [intOf];omega
          · rw [hrl] at KA kw1
            rw [hrl] at HR
            have HN:Hid (rightL l (j+1)=right1 l j):=Lib.hid (HR.out.trans (by simp))
            clear HR
            generalize right1 l j=rt at *
            go_wp2_with fail
            refine IR.out.mono ?_
            rintro e' w3 ⟨rfl,b⟩
            have KB:=KA.below b
            have OB:=only_below OA b
            clear IR b KA OA d0 d1 d2 d3 d4 d5 kw0 kw1 kwf ka0 ka1 ka2 ka3 ka4 ka5
            obtain ⟨kw0,kw1⟩:=KB.cell
            have kwf:=KB.frozen 1
            go_wp2_with fail
            go_roundw
            case rel=>exact ⟨j+1,by omega,by go_num,by rw [HN.out];exact KB.set1 _,OB.trans (only_set1 _ g _)⟩
            case measure=>simp [intOf];omega
        · obtain rfl:j=k:=by omega
          have hlt':¬ (j:Int) < (j:Int):=by omega
          obtain ⟨kw0,kw1⟩:=KW.cell
          go_wp2_with fail
          go_ret
          exact ⟨by rw [HNB.out];first | rfl | (rw [Bool.not_not];rfl),by rw [HNB.out];exact KW,O⟩
 · have HNB:Hid (nBad p true l k=true):=Lib.hid (by unfold nBad;simp)
   go_wp2_with fail
   go_ret
   exact ⟨by rw [HNB.out];rfl,by rw [HNB.out];exact hW,Only.refl _ _⟩
end Go.Proofs.YtmbmohibpkepdaaGreatDoor
