/-
 The series of the code, in plain numbers: stretches of an arctangent's series, and its units.
 Stretches of the series (series' between).
 Stretches of the series (series' between), all of them.
 The code's enclosing of a constant (series' enclose): first the sum of the shares.
 volvelleref04.Meet: two spans with a number in common.
-/
import Derived.Test.YtmbmohibpkepdaaGreatDoorPlEGNat1
import Derived.Test.YtmbmohibpkepdaaGreatDoorPlEGDy8
import Derived.Test.YtmbmohibpkepdaaGreatDoorPlEGDy9
import Derived.Test.YtmbmohibpkepdaaGreatDoorPlEGDy10
import Derived.Test.YtmbmohibpkepdaaGreatDoorPlEGDy11
import Derived.Test.YtmbmohibpkepdaaGreatDoorPlEGDy12
import Derived.Test.YtmbmohibpkepdaaGreatDoorPlEGDy13
import Derived.Test.YtmbmohibpkepdaaGreatDoorPlEGSp2
import Derived.Test.YtmbmohibpkepdaaGreatDoorPlEGSp3
import Derived.Test.YtmbmohibpkepdaaGreatDoorPlEGSp6
import Derived.Test.YtmbmohibpkepdaaGreatDoorPlEGSp9
import Derived.Test.YtmbmohibpkepdaaGreatDoorPlEGSp5
namespace Go.Proofs.YtmbmohibpkepdaaGreatDoor
open Go.RowKit
structure StrN where
 sum:Nat
 odds:Nat
 below:Nat
end Go.Proofs.YtmbmohibpkepdaaGreatDoor
namespace Go.Proofs.YtmbmohibpkepdaaGreatDoor
open Go.RowKit
theorem one_slz (t:TypeId) (w:World) (r g:Nat) (z:Int) (hr:r < B64) (hz:z=(r:Int)) (hg:g=w.heap.size):Sl (w.alloc (.cells #[.int .u64 z] t)) (some ⟨g,0,none⟩) 1 1 (fun _=>r):=by
 subst hz hg
 exact one_sl t w r hr
end Go.Proofs.YtmbmohibpkepdaaGreatDoor
namespace Go.Proofs.YtmbmohibpkepdaaGreatDoor
open Go.RowKit
theorem num_al {w:World} {v:Value} {V:Nat} (h:Num w v V) (o:Obj):Num (w.alloc o) v V:=h.below (alloc_bel w o)
structure S3 (w:World) (A:Option Addr) (a b:Nat) (B:Option Addr) (c d:Nat) (C:Option Addr) (x y:Nat) (r:StrN):Prop where
 n1:Num w (.slice A a b) r.sum
 n2:Num w (.slice B c d) r.odds
 n3:Num w (.slice C x y) r.below
section
variable {w v:World} {tm n g1 g2:Nat} {ra rb:StrN} {A1 B1 C1:Option Addr} {a1 b1 c1 d1 x1 y1:Nat} {A2 B2 C2:Option Addr} {a2 b2 c2 d2 x2 y2:Nat}
end
end Go.Proofs.YtmbmohibpkepdaaGreatDoor
namespace Go.Proofs.YtmbmohibpkepdaaGreatDoor
open Go.RowKit
variable {TW:TypeId}
def Shs (w:World) (ad:Addr) (k:Nat) (tf nf:Nat→Nat):Prop:=ad.block < w.heap.size∧∀ j,j < k→w.cell? (ad.add (j*2))=some (.int .u64 ((tf j:Nat):Int))∧w.cell? ⟨(ad.add (j*2)).block,(ad.add (j*2)).off+1,none⟩=some (.int .u64 ((nf j:Nat):Int))
theorem cell_block {w w':World} {a:Addr} (h:w'.heap[a.block]?=w.heap[a.block]?):w'.cell? a=w.cell? a:=by
 unfold World.cell?
 rw [h]
theorem Shs.only {w w':World} {ad:Addr} {k:Nat} {tf nf:Nat→Nat} {g:Nat} (h:Shs w ad k tf nf) (o:Only w w' g) (hne:ad.block≠g):Shs w' ad k tf nf:=by
 have hb:=o.block ad.block h.1 (by simpa using hne)
 refine ⟨Nat.lt_of_lt_of_le h.1 o.size,fun j hj=>?_⟩
 obtain ⟨c1,c2⟩:=h.2 j hj
 exact ⟨(cell_block (by rw [block_of_add];exact hb)).trans c1,(cell_block (by simp only [block_of_add];exact hb)).trans c2⟩
theorem NS.put6 {w:World} {g:Nat} {na nb':Bool} {A B:Option Addr} {n c m d:Nat} {ea eb:Int} (hb:Blk6 w g (.bool na) (.slice A n c) (.int .i64 ea) (.bool nb') (.slice B m d) (.int .i64 eb)) (x y z x' y' z':Value):∀ {ns:List (Value×Nat)},NS w ns→NS (put6 w g x y z x' y' z') ns
 | [],_=>trivial
 | (_,_) :: _,h=>⟨num_put6 h.1 hb x y z x' y' z',NS.put6 hb x y z x' y' z' h.2⟩
theorem st_put6 {T:TypeId} {w wi:World} {g:Nat} {p:Int} {bad:Bool} {ks:List (TypeId×Nat×Array Value)} {ns:List (Value×Nat)} (h:St T w g p bad wi ks ns) {a:Nat} (k:KC 31 wi a zs) (ha:w.heap.size≤a) (hne:NeS a ks) (x y z x' y' z':Value) :
 St T w g p bad (put6 wi a x y z x' y' z') ((31,a,#[x,y,z,x',y',z']) :: ks) ns :=
 (h.other (only_put6 _ _ _ _ _ _ _ _) ha (h.ks.put (only_put6 _ _ _ _ _ _ _ _) hne) (h.ns.put6 k.b6 x y z x' y' z')).blk (k.put6 x y z x' y' z') (by have:=h.hg;omega)
theorem ks_ne {w:World} {g:Nat}:∀ {ks:List (TypeId×Nat×Array Value)},KS w g ks→NeS w.heap.size ks
 | [],_=>trivial
 | (_,_,_) :: _,h=>⟨Nat.ne_of_lt h.1.1.2,ks_ne h.2⟩
section
variable {T:TypeId} {w v:World} {g:Nat} {p:Int} {ks:List (TypeId×Nat×Array Value)} {ns ns':List (Value×Nat)} {r:SRes} {A B:Option Addr} {n c m d a:Nat}
end
end Go.Proofs.YtmbmohibpkepdaaGreatDoor
namespace Go.Proofs.YtmbmohibpkepdaaGreatDoor
open Go.RowKit
theorem rcmpI {r s:DR} {A B:Option Addr} {n c m d:Nat} (w:World) (ha:DIn w A n c r) (hb:DIn w B m d s) :
 Calls Tryz.prog 25 #[dyv r.neg A n c r.e,dyv s.neg B m d s.e] w (CmpP w (cmpI2 r s) (r.ok && s.ok)):=by
 obtain ⟨x,a1,a2,a3,a4⟩:=ha
 obtain ⟨y,b1,b2,b3,b4⟩:=hb
 have:=rcmpD_any r.neg s.neg A B n c m d x y r.e s.e w a1 b1 a2 b2
 unfold cmpI2
 rw [a3,b3,a4,b4]
 exact this
set_option maxHeartbeats 2000000 in
theorem meet_yes {lo hi lo' hi':DR} {A B A' B':Option Addr} {n c m d n' c' m' d':Nat} (w:World) (ha:DIn w A n c lo) (hb:DIn w B m d hi) (ha':DIn w A' n' c' lo') (hb':DIn w B' m' d' hi')
 (h1:lo.ok=true) (h2:hi.ok=true) (h3:lo'.ok=true) (h4:hi'.ok=true) (hx:cmpI2 lo hi'≤0) (hy:cmpI2 lo' hi≤0) :
 Calls Tryz.prog 26 #[spv lo.neg A n c lo.e hi.neg B m d hi.e,spv lo'.neg A' n' c' lo'.e hi'.neg B' m' d' hi'.e] w (TruePost w):=by
 obtain ⟨bel,kA,kB,hsz⟩:=start666 w (.bool lo.neg) (.slice A n c) (.int .i64 lo.e) (.bool hi.neg) (.slice B m d) (.int .i64 hi.e) (.bool lo'.neg) (.slice A' n' c') (.int .i64 lo'.e) (.bool hi'.neg) (.slice B' m' d') (.int .i64 hi'.e)
 have C1:=Lib.hid (rcmpI _ (ha.below bel) (hb'.below bel))
 rw [h1,h4] at C1
 have D1:Hid (∀ w',Below w.heap.size w w'→Calls Tryz.prog 25 #[dyv lo'.neg A' n' c' lo'.e,dyv hi.neg B m d hi.e] w' (CmpP w' (cmpI2 lo' hi) true)):=Lib.hid (fun w' b=>by
  have:=rcmpI w' (ha'.below b) (hb.below b)
  rw [h3,h2] at this
  exact this)
 obtain ⟨k0,k1,k2,k3,k4,k5⟩:=kA.cell
 obtain ⟨l0,l1,l2,l3,l4,l5⟩:=kB.cell
 clear ha hb ha' hb' h1 h2 h3 h4
 generalize cmpI2 lo hi'=x at *
 generalize cmpI2 lo' hi=y at *
 go_enter Tryz.func26,Tryz.ntmps26
 go_wp2_with fail
 refine C1.out.mono ?_
 generalize (w.alloc (co6 (.bool lo.neg) (.slice A n c) (.int .i64 lo.e) (.bool hi.neg) (.slice B m d) (.int .i64 hi.e))).alloc (co6 (.bool lo'.neg) (.slice A' n' c') (.int .i64 lo'.e) (.bool hi'.neg) (.slice B' m' d') (.int .i64 hi'.e))=w1 at *
 rintro e' w2 ⟨rfl,b⟩
 have B2:=below_step bel b
 have kA2:=kA.below b (by omega)
 have kB2:=kB.below b (by omega)
 clear C1 b bel kA kB k0 k1 k2 k3 k4 k5 l0 l1 l2 l3 l4 l5
 obtain ⟨k0,k1,k2,k3,k4,k5⟩:=kA2.cell
 obtain ⟨l0,l1,l2,l3,l4,l5⟩:=kB2.cell
 go_wp2_with fail
 refine (D1.out _ B2).mono ?_
 rintro e' w3 ⟨rfl,b⟩
 have B3:=below_step B2 b
 clear D1 b B2 kA2 kB2 k0 k1 k2 k3 k4 k5 l0 l1 l2 l3 l4 l5
 go_wp2_with fail
 go_ret
 exact ⟨rfl,B3⟩
end Go.Proofs.YtmbmohibpkepdaaGreatDoor
