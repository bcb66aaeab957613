/-
 volvellelaw02.Few: numbers of up to 40 words, with exponents of up to 20000 either way.
 What a law's walk keeps: structs in blocks of their own; bounds of what is answered.
-/
import Derived.Test.YtmbmohibpkepdaaGreatDoorPlEGDy3
import Derived.Test.YtmbmohibpkepdaaGreatDoorPlEGDy5
import Derived.Test.YtmbmohibpkepdaaGreatDoorPlEGDy10
namespace Go.Proofs.YtmbmohibpkepdaaGreatDoor
open Go.RowKit
def pairD (na nb':Bool) (A B:Option Addr) (n m c d:Nat) (x y:Nat→Nat) (ea eb:Int):DL :=
 ⟨fun j=>if j=0 then na else nb',fun j=>if j=0 then A else B,fun j=>if j=0 then n else m,fun j=>if j=0 then c else d,fun j=>if j=0 then x else y,fun j=>if j=0 then ea else eb⟩
abbrev c6 (na nb':Bool) (A B:Option Addr) (n m c d:Nat) (ea eb:Int):Obj:=.cells #[.bool na,.slice A n c,.int .i64 ea,.bool nb',.slice B m d,.int .i64 eb] 24
theorem pair_ls (na nb':Bool) (A B:Option Addr) (n m c d:Nat) (x y:Nat→Nat) (ea eb:Int) (w:World) (ha:Sl w A n c x) (hb:Sl w B m d y) :
 Ls (w.alloc (c6 na nb' A B n m c d ea eb)) (some ⟨w.heap.size,0,none⟩) 2 2 (pairD na nb' A B n m c d x y ea eb):=by
 have bB:Below w.heap.size w (w.alloc (c6 na nb' A B n m c d ea eb)):=(Below.refl _ w).alloc (Nat.le_refl _) _
 have hcell:∀ i v,(#[.bool na,.slice A n c,.int .i64 ea,.bool nb',.slice B m d,.int .i64 eb]:Array Value)[i]?=some v →
  (w.alloc (c6 na nb' A B n m c d ea eb)).cell? ⟨w.heap.size,i,none⟩=some v:=fun i v h=>by
  rw [World.cell?_alloc_at _ _ _ _ (by simp)];exact h
 refine ⟨Nat.le_refl _,fun _=>⟨_,rfl,by simp,fun j hj=>?_⟩,fun j hj=>?_⟩
 · have:j=0∨j=1:=by omega
   rcases this with rfl | rfl
   · exact ⟨hcell 0 _ rfl,hcell 1 _ rfl,hcell 2 _ rfl⟩
   · exact ⟨hcell 3 _ rfl,hcell 4 _ rfl,hcell 5 _ rfl⟩
 · have:j=0∨j=1:=by omega
   rcases this with rfl | rfl
   · exact ha.below bB
   · exact hb.below bB
end Go.Proofs.YtmbmohibpkepdaaGreatDoor
namespace Go.Proofs.YtmbmohibpkepdaaGreatDoor
open Go.RowKit
def K3 (w:World) (g:Nat) (a b c:Value):Prop:=Blk3 w g a b c∧g < w.heap.size
theorem K3.adv {w w':World} {g:Nat} {a b c:Value} (h:K3 w g a b c) (hb:Below w.heap.size w w'):K3 w' g a b c:=⟨h.1.below hb h.2,Nat.lt_of_lt_of_le h.2 hb.size⟩
theorem K3.cell {w:World} {g:Nat} {a b c:Value} (h:K3 w g a b c):w.cell? ⟨g,0,none⟩=some a∧w.cell? ⟨g,1,none⟩=some b∧w.cell? ⟨g,2,none⟩=some c∧g < w.heap.size:=⟨h.1.cell.1,h.1.cell.2.1,h.1.cell.2.2,h.2⟩
theorem K3.made (w:World) (a b c:Value):K3 (w.alloc (cd3 a b c)) w.heap.size a b c:=⟨Blk3.made w a b c,by simp⟩
theorem alloc_bel (w:World) (o:Obj):Below w.heap.size w (w.alloc o):=(Below.refl _ w).alloc (Nat.le_refl _) _
theorem start33 (w:World) (a b c d e f:Value):Below w.heap.size w ((w.alloc (cd3 a b c)).alloc (cd3 d e f))∧K3 ((w.alloc (cd3 a b c)).alloc (cd3 d e f)) w.heap.size a b c ∧
 K3 ((w.alloc (cd3 a b c)).alloc (cd3 d e f)) (w.heap.size+1) d e f:=by
 have b1:=alloc_bel w (cd3 a b c)
 have b2:=alloc_bel (w.alloc (cd3 a b c)) (cd3 d e f)
 have k2:=K3.made (w.alloc (cd3 a b c)) d e f
 rw [show (w.alloc (cd3 a b c)).heap.size=w.heap.size+1 by simp] at k2
 exact ⟨b1.trans (b2.mono b1.size),(K3.made w a b c).adv b2,k2⟩
theorem below_step {w w1 w2:World} (h:Below w.heap.size w w1) (b:Below w1.heap.size w1 w2):Below w.heap.size w w2:=h.trans (b.mono h.size)
def DP (w:World) (r:DR) (e:Ending) (w':World):Prop:=∃ A p c,e=.returned (.tuple #[.agg #[.bool r.neg,.slice A p c,.int .i64 r.e],.bool r.ok])∧Num w' (.slice A p c) r.m∧Below w.heap.size w w'
theorem DPost.dp {w w':World} {r:DR} {e:Ending} (h:DPost w r e w'):DP w r e w':=by
 obtain ⟨v,rfl,⟨A,n,c,f,rfl,hm⟩,b⟩:=h
 exact ⟨A,n,c,rfl,⟨A,n,c,f,rfl,hm⟩,b⟩
end Go.Proofs.YtmbmohibpkepdaaGreatDoor
