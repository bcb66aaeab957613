/-
 Words for slices of uint64 that read as digits; plain lemmas on them. No program is named here.
 Rows of uint64 that the call itself made: their words by the place; the sum that is worked into a row. No program is named here.
 copy and append on rows of uint64, as laws for the walk. No program is named here.
 Closed facts of the program, and what each of the walks over nat imports.
 nat.view: the trimmed part of a list.
 nat.addInto: b is added into the words of sum, and what is carried out of them is answered.
-/
import Derived.Below
import Derived.Laws.OwnMore
import Derived.Deep.AppendLies
import Derived.Deep.Draws
import Derived.Laws.Rows
import Derived.RowKit
import Derived.Deep.OwnRows
import Derived.Laws.AppendOwn
import Derived.Laws.CopyOwn
import Derived.Lib.Hide
import Derived.Maps.AppendAt
import Derived.OwnWalk
import Derived.Laws.NewBlocks
import Derived.Laws.AppendOwnNone
import Derived.Deep.RegionLaw
import Derived.Test.YtmbmohibpkepdaaGreatDoorRows
import Derived.WalkKit
import Derived.ProofKit
import Derived.Outline
import Derived.Laws.Externs
import Derived.Shelf.Spec.BitsCarry
import Derived.Test.YtmbmohibpkepdaaGreatDoorPlEGNumbers
namespace Go.Proofs.YtmbmohibpkepdaaGreatDoor
open Go.RowKit
theorem block_of_add (a:Addr) (n:Nat):(a.add n).block=a.block:=by unfold Addr.add;split <;> rfl
theorem add_of_add (a:Addr) (i j:Nat):(a.add i).add j=a.add (i+j):=by
 unfold Addr.add
 by_cases hi:i=0 <;> by_cases hj:j=0 <;> simp [hi,hj,Nat.add_assoc]
def Sl (w:World) (A:Option Addr) (n c:Nat) (f:Nat→Nat):Prop :=
 n≤c∧(∀ j,j < n→f j < B64) ∧
  (0 < n→∃ ad,A=some ad∧ad.block < w.heap.size∧∀ j,j < n→w.cell? (ad.add j)=some (.int .u64 ((f j:Nat):Int)))
def Num (w:World) (v:Value) (V:Nat):Prop:=∃ A n c f,v=.slice A n c∧Sl w A n c f∧Cn n f∧vs B64 f n=V
section
variable {w w':World} {A:Option Addr} {n c:Nat} {f:Nat→Nat}
theorem Sl.cap (h:Sl w A n c f):n≤c:=h.1
theorem Sl.small (h:Sl w A n c f):∀ j,j < n→f j < B64:=h.2.1
theorem Sl.none_ (w:World) (c:Nat) (A:Option Addr) (f:Nat→Nat):Sl w A 0 c f:=⟨Nat.zero_le _,fun j h=>absurd h (by omega),fun h=>absurd h (by omega)⟩
theorem Sl.at_ {k:Nat} (h:Sl w A n c f) (hk:k < n):∃ ad,A=some ad∧ad.block < w.heap.size∧f k < B64∧w.cell? (ad.add k)=some (.int .u64 ((f k:Nat):Int)):=by
 obtain ⟨_,h2,h3⟩:=h
 obtain ⟨ad,e,hb,hc⟩:=h3 (by omega)
 exact ⟨ad,e,hb,h2 k hk,hc k hk⟩
theorem Sl.keep (h:Sl w A n c f) (hz:w.heap.size≤w'.heap.size) (hk:∀ p:Addr,p.block < w.heap.size→w'.cell? p=w.cell? p):Sl w' A n c f :=
 ⟨h.1,h.2.1,fun hn=>by
  obtain ⟨ad,e,hb,hc⟩:=h.2.2 hn
  exact ⟨ad,e,by omega,fun j hj=>(hk _ (by rw [block_of_add];exact hb)).trans (hc j hj)⟩⟩
theorem Sl.below (h:Sl w A n c f) (hb:Below w.heap.size w w'):Sl w' A n c f:=h.keep hb.size fun _ hp=>hb.cell hp
theorem Sl.drew (h:Sl w A n c f):Sl w.drew A n c f:=h
theorem Sl.drewN (h:Sl w A n c f) (k:Nat):Sl (w.drewN k) A n c f:=h
theorem Sl.alloc (h:Sl w A n c f) (o:Obj):Sl (w.alloc o) A n c f:=h.keep (by simp) fun p hp=>World.cell?_alloc_lt w o p hp
theorem Sl.take (h:Sl w A n c f) {k:Nat} (hk:k≤n):Sl w A k c f:=by
 obtain ⟨h1,h2,h3⟩:=h
 refine ⟨by omega,fun j hj=>h2 j (by omega),fun hn=>?_⟩
 obtain ⟨ad,e,hb,hc⟩:=h3 (by omega)
 exact ⟨ad,e,hb,fun j hj=>hc j (by omega)⟩
theorem Sl.congr {g:Nat→Nat} (h:Sl w A n c f) (hg:∀ j,j < n→f j=g j):Sl w A n c g:=by
 obtain ⟨h1,h2,h3⟩:=h
 refine ⟨h1,fun j hj=>hg j hj ▸ h2 j hj,fun hn=>?_⟩
 obtain ⟨ad,e,hb,hc⟩:=h3 hn
 exact ⟨ad,e,hb,fun j hj=>by rw [← hg j hj];exact hc j hj⟩
theorem Num.below {v:Value} {V:Nat} (h:Num w v V) (hb:Below w.heap.size w w'):Num w' v V:=by
 obtain ⟨A,n,c,f,hv,hs,hc,he⟩:=h
 exact ⟨A,n,c,f,hv,hs.below hb,hc,he⟩
end
def viewV (A:Option Addr) (c k:Nat):Value:=if k=0 then .slice none 0 0 else .slice A k c
theorem viewV_sl {w:World} {A:Option Addr} {n c:Nat} {f:Nat→Nat} (h:Sl w A n c f):∃ A' c',viewV A c (tl f n)=.slice A' (tl f n) c'∧Sl w A' (tl f n) c' f:=by
 unfold viewV
 by_cases h0:tl f n=0
 · rw [if_pos h0,h0];exact ⟨none,0,rfl,Sl.none_ w 0 none f⟩
 · rw [if_neg h0];exact ⟨A,c,rfl,h.take (tl_le f n)⟩
theorem viewV_num {w:World} {A:Option Addr} {n c:Nat} {f:Nat→Nat} (h:Sl w A n c f):Num w (viewV A c (tl f n)) (vs B64 f n):=by
 obtain ⟨A',c',e,hs⟩:=viewV_sl h
 exact ⟨A',_,c',f,e,hs,tl_cn f n,vs_tl _ f n⟩
end Go.Proofs.YtmbmohibpkepdaaGreatDoor
namespace Go.Proofs.YtmbmohibpkepdaaGreatDoor
open Go.RowKit
def Row (t:TypeId) (w:World) (g N:Nat) (F:Nat→Nat):Prop :=
 (∃ c:Array Value,w.heap[g]?=some (.cells c t (0,0))∧N≤c.size∧∀ i,i < N→c[i]?=some (.int .u64 ((F i:Nat):Int)))∧∀ j,j < N→F j < B64
abbrev Only (w w':World) (g:Nat):Prop:=w.grownBy w' (some g)
section
variable {t:TypeId} {w w':World} {g N:Nat} {F:Nat→Nat}
theorem Row.lt (h:Row t w g N F):g < w.heap.size:=by
 obtain ⟨⟨c,hb,_⟩,_⟩:=h
 exact (Array.getElem?_eq_some_iff.1 hb).1
theorem Row.cell (h:Row t w g N F) {i:Nat} (hi:i < N):w.cell? ⟨g,i,none⟩=some (.int .u64 ((F i:Nat):Int)):=by
 obtain ⟨⟨c,hb,_,hc⟩,_⟩:=h
 simp [World.cell?,hb,hc i hi]
theorem Row.frozen (h:Row t w g N F) (i:Nat):w.frozen? ⟨g,i,none⟩=false:=by
 obtain ⟨⟨c,hb,_,_⟩,_⟩:=h
 simp [World.frozen?,hb]
theorem Row.set_ (h:Row t w g N F) (i x:Nat) (hx:x < B64):Row t (w.setCell ⟨g,i,none⟩ (.int .u64 ((x:Nat):Int))) g N (upd F i x):=by
 obtain ⟨⟨c,hb,hn,hc⟩,h2⟩:=h
 refine ⟨⟨c.setIfInBounds i (.int .u64 ((x:Nat):Int)),by simp [World.setCell,Array.getElem?_modify,hb],by simpa using hn,fun j hj=>?_⟩,fun j hj=>?_⟩
 · rw [Array.getElem?_setIfInBounds]
   by_cases e:j=i
   · subst e;rw [if_pos rfl,if_pos (by omega),upd_same]
   · rw [if_neg (fun h=>e h.symm),upd_other _ _ _ _ e];exact hc j hj
 · unfold upd;split
   · exact hx
   · exact h2 j hj
theorem Row.of_block (h:Row t w g N F) (e:w'.heap[g]?=w.heap[g]?):Row t w' g N F:=by
 obtain ⟨⟨c,hb,r⟩,h2⟩:=h
 exact ⟨⟨c,e.trans hb,r⟩,h2⟩
theorem Row.alloc (h:Row t w g N F) (o:Obj):Row t (w.alloc o) g N F:=h.of_block (Below.heap_alloc w o g h.lt)
theorem Row.drew (h:Row t w g N F):Row t w.drew g N F:=h
theorem Row.drewN (h:Row t w g N F) (n:Nat):Row t (w.drewN n) g N F:=h
theorem Row.below (h:Row t w g N F) {B:Nat} (hb:Below B w w') (hg:g < B):Row t w' g N F:=h.of_block (hb.block g hg)
theorem Row.other (h:Row t w g N F) {g':Nat} (ho:Only w w' g') (hne:g≠g'):Row t w' g N F:=h.of_block (ho.block g h.lt (by simpa using hne))
theorem Row.congr {G:Nat→Nat} (h:Row t w g N F) (e:∀ j,j < N→F j=G j):Row t w g N G:=by
 obtain ⟨⟨c,hb,hn,hc⟩,h2⟩:=h
 exact ⟨⟨c,hb,hn,fun i hi=>by rw [hc i hi,e i hi]⟩,fun j hj=>e j hj ▸ h2 j hj⟩
theorem Row.made (t:TypeId) (w:World) (n:Nat):Row t (w.alloc (.cells (madeCells #[.int .u64 0] n) t)) w.heap.size n (fun _=>0):=by
 obtain ⟨c,hb,hn,hc⟩:=World.rowIs_made w (.int .u64 0) n t
 exact ⟨⟨c,hb,by omega,hc⟩,fun _ _=>B64_pos⟩
theorem Only.refl (w:World) (g:Nat):Only w w g:=⟨rfl,rfl,rfl,Nat.le_refl _,fun _ _ _=>rfl⟩
theorem Only.trans {a b c:World} {g:Nat} (h:Only a b g) (k:Only b c g):Only a c g :=
 ⟨k.os.trans h.os,k.tape.trans h.tape,k.output.trans h.output,Nat.le_trans h.size k.size,fun i hi hne=>(k.block i (Nat.lt_of_lt_of_le hi h.size) hne).trans (h.block i hi hne)⟩
theorem Only.set_ {a:World} (h:Only a w g) (i:Nat) (u:Value):Only a (w.setCell ⟨g,i,none⟩ u) g :=
 ⟨h.os,h.tape,h.output,by simpa [World.setCell] using h.size,fun i hi hne=>(Below.heap_setCell w _ u i (by intro e;exact hne (by rw [e]))).trans (h.block i hi hne)⟩
theorem Only.below {B:Nat} {a:World} (h:Below B a w) (k:Only w w' g) (hB:B≤w.heap.size) (hg:B≤g):Below B a w' :=
 h.grown k hB fun i hi=>by injection hi with hi;omega
theorem Sl.only {A:Option Addr} {n c:Nat} {f:Nat→Nat} (h:Sl w A n c f) (k:Only w w' g) (hne:0 < n→∀ ad,A=some ad→ad.block≠g):Sl w' A n c f :=
 ⟨h.1,h.2.1,fun hn=>by
  obtain ⟨ad,e,hb,hc⟩:=h.2.2 hn
  exact ⟨ad,e,Nat.lt_of_lt_of_le hb k.size,fun j hj=>(World.cell?_of_block (k.block _ (by rw [block_of_add];exact hb) (by rw [block_of_add];have:=hne hn ad e;simpa using this))).trans (hc j hj)⟩⟩
theorem Sl.far {A:Option Addr} {n c:Nat} {f:Nat→Nat} (h:Sl w A n c f) (hg:w.heap.size≤g):0 < n→∀ ad,A=some ad→ad.block≠g:=fun hn ad e=>by
 obtain ⟨ad',e',hb,_⟩:=h.2.2 hn
 rw [e] at e'
 injection e' with e'
 subst e'
 omega
theorem add_mk (g off j:Nat):(Addr.mk g off none).add j=⟨g,off+j,none⟩:=by
 unfold Addr.add;split
 · rename_i h;subst h;rfl
 · rfl
theorem Row.sl (h:Row t w g N F) (off n c:Nat) (hN:off+n≤N) (hc:n≤c):Sl w (some ⟨g,off,none⟩) n c (fun j=>F (off+j)) :=
 ⟨hc,fun j hj=>h.2 _ (by omega),fun _=>⟨_,rfl,h.lt,fun j hj=>by rw [add_mk];exact h.cell (by omega)⟩⟩
theorem Row.sl0 (h:Row t w g N F) (n c:Nat) (hN:n≤N) (hc:n≤c):Sl w (some ⟨g,0,none⟩) n c F :=
 (h.sl 0 n c (by omega) hc).congr fun j _=>by rw [Nat.zero_add]
end
def AddInv (t:TypeId) (D:Nat) (w wr:World) (g N off:Nat) (F F' y:Nat→Nat) (m k d:Nat):Prop :=
 d≤D∧Row t wr g N F'∧Only w wr g∧(∀ j,j < off∨off+k≤j→F' j=F j) ∧
  vs B64 (fun j=>F' (off+j)) k+d*B64^k=vs B64 (fun j=>F (off+j)) k+vs B64 (fun j=>if j < m then y j else 0) k
section
variable {t:TypeId} {w wr:World} {g N off:Nat} {F F' y:Nat→Nat} {m k d D:Nat}
theorem AddInv.start (h:Row t w g N F):AddInv t D w w g N off F F y m 0 0:=⟨Nat.zero_le _,h,Only.refl _ _,fun _ _=>rfl,by simp [vs_zero]⟩
theorem AddInv.step (h:AddInv t D w wr g N off F F' y m k d) {r d':Nat} (hr:r+d'*B64=F (off+k)+(if k < m then y k else 0)+d) (h1:r < B64) (h2:d'≤D) :
 AddInv t D w (wr.setCell ⟨g,off+k,none⟩ (.int .u64 ((r:Nat):Int))) g N off F (upd F' (off+k) r) y m (k+1) d':=by
 obtain ⟨_,hrow,hon,hag,hv⟩:=h
 refine ⟨h2,hrow.set_ _ _ h1,hon.set_ _ _,fun j hj=>?_,?_⟩
 · rw [upd_other _ _ _ _ (by omega)];exact hag j (by omega)
 · rw [vs_succ,vs_succ,vs_succ,upd_same]
   have e:vs B64 (fun j=>upd F' (off+k) r (off+j)) k=vs B64 (fun j=>F' (off+j)) k:=vs_congr fun j hj=>upd_other _ _ _ _ (by omega)
   rw [e]
   exact step_add hv hr
theorem AddInv.rest (h:AddInv t D w wr g N off F F' y m k 0) (hm:m≤k) (i:Nat):AddInv t D w wr g N off F F' y m (k+i) 0:=by
 induction i with
 | zero=>exact h
 | succ i ih =>
  obtain ⟨_,hrow,hon,hag,hv⟩:=ih
  refine ⟨Nat.zero_le _,hrow,hon,fun j hj=>h.2.2.2.1 j (by omega),?_⟩
  rw [← Nat.add_assoc,vs_succ,vs_succ,vs_succ,if_neg (by omega),h.2.2.2.1 (off+(k+i)) (by omega)]
  simp only [Nat.zero_mul,Nat.add_zero] at hv ⊢
  omega
theorem vs_pad (b:Nat) (y:Nat→Nat) (m n:Nat) (h:m≤n):vs b (fun j=>if j < m then y j else 0) n=vs b y m:=by
 obtain ⟨i,rfl⟩:=Nat.exists_eq_add_of_le h
 clear h
 induction i with
 | zero=>exact vs_congr fun j hj=>by rw [if_pos (by omega)]
 | succ i ih=>rw [← Nat.add_assoc,vs_succ,ih,if_neg (by omega),Nat.zero_mul,Nat.add_zero]
end
end Go.Proofs.YtmbmohibpkepdaaGreatDoor
namespace Go.Proofs.YtmbmohibpkepdaaGreatDoor
open Go.RowKit
def cellsOf (f:Nat→Nat) (n:Nat):List Value:=(List.range n).map fun j=>Value.int .u64 ((f j:Nat):Int)
theorem cellsOf_len (f:Nat→Nat) (n:Nat):(cellsOf f n).length=n:=by simp [cellsOf]
theorem cellsOf_at {f:Nat→Nat} {n j:Nat} {u:Value} (h:(cellsOf f n)[j]?=some u):j < n∧u=.int .u64 ((f j:Nat):Int):=by
 have hl:j < n:=by
  rcases Nat.lt_or_ge j n with h1 | h1
  · exact h1
  · rw [List.getElem?_eq_none (by rw [cellsOf_len];exact h1)] at h;cases h
 refine ⟨hl,?_⟩
 simp [cellsOf,hl] at h
 exact h.symm
theorem cellsOf_get {f:Nat→Nat} {n j:Nat} (h:j < n):(cellsOf f n)[j]?=some (.int .u64 ((f j:Nat):Int)):=by simp [cellsOf,h]
theorem cellsOf_one {f:Nat→Nat} {n:Nat}:∀ u ∈ cellsOf f n,u.oneCell'=true:=by
 intro u hu
 simp only [cellsOf,List.mem_map] at hu
 obtain ⟨j,_,rfl⟩:=hu
 rfl
theorem cellsOf_congr {f g:Nat→Nat} {n:Nat} (h:∀ j,j < n→f j=g j):cellsOf f n=cellsOf g n:=by
 apply List.ext_getElem?
 intro j
 rcases Nat.lt_or_ge j n with h1 | h1
 · rw [cellsOf_get h1,cellsOf_get h1,h j h1]
 · rw [List.getElem?_eq_none (by rw [cellsOf_len];exact h1),List.getElem?_eq_none (by rw [cellsOf_len];exact h1)]
def cat (f:Nat→Nat) (n:Nat) (h:Nat→Nat):Nat→Nat:=fun j=>if j < n then f j else h (j-n)
theorem cellsOf_cat (f h:Nat→Nat) (n m:Nat):cellsOf (cat f n h) (n+m)=cellsOf f n ++ cellsOf h m:=by
 apply List.ext_getElem?
 intro j
 rcases Nat.lt_or_ge j n with h1 | h1
 · rw [cellsOf_get (by omega),List.getElem?_append_left (by rw [cellsOf_len];exact h1),cellsOf_get h1]
   simp [cat,h1]
 · rw [List.getElem?_append_right (by rw [cellsOf_len];exact h1),cellsOf_len]
   rcases Nat.lt_or_ge j (n+m) with h2 | h2
   · rw [cellsOf_get h2,cellsOf_get (by omega)]
     simp [cat,Nat.not_lt.2 h1]
   · rw [List.getElem?_eq_none (by rw [cellsOf_len];exact h2),List.getElem?_eq_none (by rw [cellsOf_len];omega)]
def Own (t:TypeId) (w:World) (base:Nat) (v:Value) (n:Nat) (f:Nat→Nat):Prop:=w.ownsRow base t 1 v n (cellsOf f n)∧∀ j,j < n→f j < B64
section
variable {t:TypeId} {w w':World} {base:Nat} {v:Value} {n:Nat} {f:Nat→Nat}
theorem Own.nil (t:TypeId) (w:World) (base:Nat) (f:Nat→Nat):Own t w base (.slice none 0 0) 0 f:=⟨⟨rfl,.inl ⟨rfl,rfl⟩⟩,fun j h=>absurd h (by omega)⟩
theorem Own.empty (t:TypeId) (w:World) (base:Nat) (f:Nat→Nat) (hb:base≤w.heap.size):Own t (w.alloc (.cells #[] t)) base (.slice (some ⟨w.heap.size,0,none⟩) 0 0) 0 f :=
 ⟨⟨rfl,.inr ⟨w.heap.size,0,#[],rfl,hb,heap_alloc_new w _,Nat.le_refl _,Nat.zero_le _,rfl,rfl⟩⟩,fun j h=>absurd h (by omega)⟩
theorem Own.made (t:TypeId) (w:World) (base n:Nat) (hb:base≤w.heap.size) (hn:n≤1000000):Own t (w.alloc (.cells (madeCells #[.int .u64 0] n) t)) base (.slice (some ⟨w.heap.size,0,none⟩) n n) n (fun _=>0):=by
 refine ⟨⟨by rw [cellsOf_len];omega,.inr ⟨w.heap.size,n,_,rfl,hb,heap_alloc_new w _,Nat.le_refl _,by simp only [maxLen];omega,by rw [size_madeCells];omega,?_⟩⟩,fun _ _=>B64_pos⟩
 rw [toList_madeCells_one,List.take_of_length_le (by simp)]
 apply List.ext_getElem?
 intro j
 rcases Nat.lt_or_ge j n with h1 | h1
 · rw [cellsOf_get h1];simp [h1]
 · rw [List.getElem?_eq_none (by simpa using h1),List.getElem?_eq_none (by rw [cellsOf_len];exact h1)]
theorem Own.row {t:TypeId} {w:World} {base:Nat} {v:Value} {n:Nat} {f:Nat→Nat} (h:Own t w base v n f) (hn:0 < n):∃ g c,v=.slice (some ⟨g,0,none⟩) n c∧base≤g∧n≤c∧Row t w g n f:=by
 obtain ⟨⟨hl,h1⟩,h2⟩:=h
 rcases h1 with ⟨_,h0⟩ | ⟨g,cap,cur,rfl,hg,hh,hnc,hcm,hcs,hct⟩
 · omega
 · refine ⟨g,cap,rfl,hg,hnc,⟨cur,hh,by omega,fun j hj=>?_⟩,h2⟩
   have e1:(cellsOf f n)[j]?=cur.toList[j]?:=by rw [← hct,List.getElem?_take,if_pos (by omega)]
   rw [cellsOf_get hj,Array.getElem?_toList] at e1
   exact e1.symm
theorem Own.alloc (h:Own t w base v n f) (o:Obj):Own t (w.alloc o) base v n f:=⟨h.1.alloc o,h.2⟩
theorem Own.congr {g:Nat→Nat} (h:Own t w base v n f) (e:∀ j,j < n→f j=g j):Own t w base v n g:=by
 refine ⟨?_,fun j hj=>e j hj ▸ h.2 j hj⟩
 rw [← cellsOf_congr e];exact h.1
theorem Own.sl (h:Own t w base v n f):∃ A c,v=.slice A n c∧Sl w A n c f∧∀ ad,A=some ad→base≤ad.block:=by
 obtain ⟨⟨hl,h1⟩,h2⟩:=h
 rcases h1 with ⟨rfl,rfl⟩ | ⟨g,cap,cur,rfl,hg,hh,hnc,hcm,hcs,hct⟩
 · exact ⟨none,0,rfl,Sl.none_ w 0 none f,fun ad e=>by cases e⟩
 · refine ⟨_,cap,rfl,⟨hnc,h2,fun hn=>⟨_,rfl,?_,fun j hj=>?_⟩⟩,fun ad e=>by injection e with e;subst e;exact hg⟩
   · exact (Array.getElem?_eq_some_iff.1 hh).1
   · rw [add_mk,Nat.zero_add]
     have e1:(cellsOf f n)[j]?=cur.toList[j]?:=by rw [← hct,List.getElem?_take,if_pos (by omega)]
     rw [cellsOf_get hj] at e1
     simp [World.cell?,hh]
     rw [Array.getElem?_toList] at e1
     exact e1.symm
end
section
variable {P:Program} {w:World} {ops:Array Oper} {rest:List Oper} {o:Oper} {a:Act} {Q:Exit→Act→World→Prop}
theorem wpList_copy_words (hgd:o.guard=none) (d s:Operand) (T:TypeId) (ho:o.op=.call { callee:=.builtin .copy,args:=#[d,s],argTypes:=#[T,T] })
 (E:TypeId) (hu:P.underlying T=some (.slice E)) (hsz:(P.info? E).map (·.size)=some 1) (t:TypeId) (g N dLen dCap:Nat) (F:Nat→Nat) (A:Option Addr) (sLen sCap:Nat) (f:Nat→Nat)
 (hd:a.eval d=.slice (some ⟨g,0,none⟩) dLen dCap) (hs:a.eval s=.slice A sLen sCap) (hr:Row t w g N F) (hdl:dLen≤N) (hf:Sl w A sLen sCap f) (hle:sLen≤dLen)
 (h:∀ w',Row t w' g N (fun j=>if j < sLen then f j else F j)→Only w w' g→wpList P ops Q rest (a.put o.dst (goInt sLen)) w'):wpList P ops Q (o :: rest) a w:=by
 rcases Nat.eq_zero_or_pos sLen with h0 | h0
 · subst h0
   refine wpList_copy_nothing hgd d s T T ho E hu hsz _ _ _ _ _ _ hd hs (by simp) ?_
   exact h w (hr.congr fun j _=>by simp) (Only.refl _ _)
 · obtain ⟨ad,rfl,hb,hc⟩:=hf.2.2 h0
   obtain ⟨⟨cur,hg,hcs,hcur⟩,hF⟩:=hr
   refine wpList_copy_own hgd d s T T ho E hu hsz g 0 dLen dCap ad sLen sCap hd hs cur t hg (cellsOf f sLen) (by rw [cellsOf_len];exact (Nat.min_eq_left hle).symm)
    (fun j u hj=>by obtain ⟨h1,rfl⟩:=cellsOf_at hj;exact hc j h1) (by rw [cellsOf_len];omega) cellsOf_one ?_
   rw [cellsOf_len]
   refine h _ ⟨⟨_,setRow_heap w g _ _ t _ hg,?_,fun j hj=>?_⟩,fun j hj=>?_⟩ ⟨rfl,rfl,rfl,by simp [World.setRow],fun k _ hk=>setRow_other w g k _ (by simpa using hk)⟩
   · simp [cellsOf_len];omega
   · simp only [List.take_zero,List.nil_append,Nat.zero_add,List.getElem?_toArray]
     by_cases h1:j < sLen
     · rw [List.getElem?_append_left (by rw [cellsOf_len];exact h1),cellsOf_get h1,if_pos h1]
     · rw [List.getElem?_append_right (by rw [cellsOf_len];omega),cellsOf_len,List.getElem?_drop,if_neg h1]
       rw [Nat.add_sub_cancel' (by omega),Array.getElem?_toList]
       exact hcur j hj
   · show (if j < sLen then f j else F j) < B64
     by_cases h1:j < sLen
     · rw [if_pos h1];exact hf.2.1 j h1
     · rw [if_neg h1];exact hF j hj
theorem wp_append_words {K:Act→World→Prop} (s x:Operand) (T:TypeId) (ho:o.op=.call { callee:=.builtin .append,args:=#[s,x],argTypes:=#[T,T] })
 (base:Nat) (t:TypeId) (hu:P.underlying T=some (.slice t)) (hinfo:(P.info? t).map (fun i=>(i.zero,i.size,i.bytes))=some (some (.int .u64 0),1,8))
 (v:Value) (n:Nat) (f:Nat→Nat) (hs:a.eval s=v) (hown:Own t w base v n f) (A:Option Addr) (m c:Nat) (y:Nat→Nat) (hx:a.eval x=.slice A m c) (hy:Sl w A m c y)
 (hnm:n+m≤1000000) (hbase:base≤w.heap.size)
 (h:∀ v' w',Own t w' base v' (n+m) (cat f n y)→(∀ B w0,B≤base→Below B w0 w→Below B w0 w')→K (a.put o.dst v') w'):o.wp P a w K Q:=by
 obtain ⟨i,hi,hzz⟩:=Option.map_eq_some_iff.1 hinfo
 simp only [Prod.mk.injEq] at hzz
 obtain ⟨hz,hsz,hby⟩:=hzz
 have hcat:∀ j,j < n+m→cat f n y j < B64:=fun j hj=>by
  unfold cat;split
  · exact hown.2 j (by omega)
  · exact hy.2.1 _ (by omega)
 have hrow:∀ g,v.ownBlock=some g→base≤g:=fun g hg=>by
  obtain ⟨A',c',rfl,_,hA⟩:=hown.sl
  rcases A' with _ | ad
  · simp [Value.ownBlock] at hg
  · simp [Value.ownBlock] at hg;rw [← hg];exact hA ad rfl
 have key:∃ v' w',(Builtin.append_ #[T,T] o.type #[v,.slice A m c]).run P w=.ok v' w'∧w'.ownsRow base t 1 v' (n+m) (cellsOf f n ++ cellsOf y m)∧w.grownBy w' v.ownBlock:=by
  rcases A with _ | ad
  · have hm:m=0:=by
     rcases Nat.eq_zero_or_pos m with h0 | h0
     · exact h0
     · obtain ⟨ad,he,_⟩:=hy.2.2 h0;cases he
    subst hm
    refine ⟨v,w,?_,by simpa [cellsOf] using hown.1,World.grownBy.refl w _⟩
    rcases hown.1.2 with ⟨rfl,rfl⟩ | ⟨g,cap,cur,rfl,_,_,hnc,_⟩
    · simp [Builtin.append_,run_underlying hu,sizeOf,typeInfo,hi,Builtin.lenOf,Builtin.firstCells]
    · simp [Builtin.append_,run_underlying hu,sizeOf,typeInfo,hi,Builtin.lenOf,Builtin.firstCells,hnc,storeCells]
  · have hcells:∀ j u,(cellsOf y m)[j]?=some u→w.cell? (ad.add j)=some u:=fun j u hj=>by
     obtain ⟨h1,rfl⟩:=cellsOf_at hj
     obtain ⟨ad',e,_,hc⟩:=hy.2.2 (by omega)
     injection e with e
     subst e
     exact hc j h1
    obtain ⟨v',w',hrun,h2,h3,_,_⟩:=run_append_own_at (P:=P) w base T o.type t i _ 1 8 hu hi hz hsz hby rfl (by omega) v n (cellsOf f n) hown.1 ad m c (cellsOf y m) (by rw [cellsOf_len];omega) hcells cellsOf_one
     (by simp only [maxLen];omega) (by omega) hbase
    exact ⟨v',w',hrun,h2,h3⟩
 obtain ⟨v',w',hrun,h2,h3⟩:=key
 unfold Oper.wp execOp
 simp only [ho,resolve,invoke,builtin,Sem.run_bind,Sem.run_pure,Result.andThen_ok,List.map_toArray,List.map_cons,List.map_nil,hs,hx,hrun]
 refine h v' w' ⟨by rw [cellsOf_cat];exact h2,hcat⟩ fun B w0 hB hb=>hb.grown h3 (by omega) fun g hg=>by have:=hrow g hg;omega
theorem wpList_append_words (hgd:o.guard=none) (s x:Operand) (T:TypeId) (ho:o.op=.call { callee:=.builtin .append,args:=#[s,x],argTypes:=#[T,T] })
 (base:Nat) (t:TypeId) (hu:P.underlying T=some (.slice t)) (hinfo:(P.info? t).map (fun i=>(i.zero,i.size,i.bytes))=some (some (.int .u64 0),1,8))
 (v:Value) (n:Nat) (f:Nat→Nat) (hs:a.eval s=v) (hown:Own t w base v n f) (A:Option Addr) (m c:Nat) (y:Nat→Nat) (hx:a.eval x=.slice A m c) (hy:Sl w A m c y)
 (hnm:n+m≤1000000) (hbase:base≤w.heap.size)
 (h:∀ v' w',Own t w' base v' (n+m) (cat f n y)→(∀ B w0,B≤base→Below B w0 w→Below B w0 w')→wpList P ops Q rest (a.put o.dst v') w'):wpList P ops Q (o :: rest) a w :=
 wpList_plain hgd fun _ hK=>wp_append_words s x T ho base t hu hinfo v n f hs hown A m c y hx hy hnm hbase fun v' w' h1 h2=>hK _ _ (h v' w' h1 h2)
theorem wpList_append_one (hgd:o.guard=none) (s x:Operand) (T:TypeId) (ho:o.op=.call { callee:=.builtin .append,args:=#[s,x],argTypes:=#[T,T] })
 (base:Nat) (t:TypeId) (hu:P.underlying T=some (.slice t)) (hinfo:(P.info? t).map (fun i=>(i.zero,i.size,i.bytes))=some (some (.int .u64 0),1,8))
 (v:Value) (n:Nat) (f:Nat→Nat) (hs:a.eval s=v) (hown:Own t w base v n f) (y:Nat) (hx:a.eval x=.slice (some ⟨w.heap.size,0,none⟩) 1 1) (hy:y < B64)
 (hnm:n+1≤1000000) (hbase:base≤w.heap.size)
 (h:∀ v' w',Own t w' base v' (n+1) (upd f n y)→(∀ B w0,B≤base→Below B w0 w→Below B w0 w')→wpList P ops Q rest (a.put o.dst v') w') :
 wpList P ops Q (o :: rest) a (w.alloc (.cells #[.int .u64 ((y:Nat):Int)] t)):=by
 have hsl:Sl (w.alloc (.cells #[.int .u64 ((y:Nat):Int)] t)) (some ⟨w.heap.size,0,none⟩) 1 1 (fun _=>y) :=
  ⟨Nat.le_refl _,fun _ _=>hy,fun _=>⟨_,rfl,by simp,fun j hj=>by
   obtain rfl:j=0:=by omega
   rw [add_mk,World.cell?_alloc_at _ _ _ _ rfl];rfl⟩⟩
 refine wpList_append_words hgd s x T ho base t hu hinfo v n f hs (hown.alloc _) _ 1 1 _ hx hsl hnm (by simp;omega) fun v' w' h1 h2=>?_
 refine h v' w' (h1.congr fun j hj=>?_) fun B w0 hB hb=>h2 B w0 hB (hb.alloc (by omega) _)
 unfold cat upd
 by_cases e:j=n
 · subst e;simp
 · rw [if_neg e,if_pos (by omega)]
theorem wpList_append_int (hgd:o.guard=none) (s x:Operand) (T:TypeId) (ho:o.op=.call { callee:=.builtin .append,args:=#[s,x],argTypes:=#[T,T] })
 (base:Nat) (t:TypeId) (hu:P.underlying T=some (.slice t)) (hinfo:(P.info? t).map (fun i=>(i.zero,i.size,i.bytes))=some (some (.int .u64 0),1,8))
 (v:Value) (n:Nat) (f:Nat→Nat) (hs:a.eval s=v) (hown:Own t w base v n f) (y:Nat) (z:Int) (hz:z=(y:Int)) (hx:a.eval x=.slice (some ⟨w.heap.size,0,none⟩) 1 1) (hy:y < B64)
 (hnm:n+1≤1000000) (hbase:base≤w.heap.size)
 (h:∀ v' w',Own t w' base v' (n+1) (upd f n y)→(∀ B w0,B≤base→Below B w0 w→Below B w0 w')→wpList P ops Q rest (a.put o.dst v') w') :
 wpList P ops Q (o :: rest) a (w.alloc (.cells #[.int .u64 z] t)):=by
 subst hz
 exact wpList_append_one hgd s x T ho base t hu hinfo v n f hs hown y hx hy hnm hbase h
end
end Go.Proofs.YtmbmohibpkepdaaGreatDoor
namespace Go.Proofs.YtmbmohibpkepdaaGreatDoor
open Go.RowKit
theorem info64:(Tryz.prog.info? 51).map (fun i=>(i.zero,i.size,i.bytes))=some (some (.int .u64 0),1,8):=by kernel_rfl
theorem size64:(Tryz.prog.info? 51).map (·.size)=some 1:=by kernel_rfl
theorem make_run (n:Nat) (hn:n≤1000001) (u:World):(Instr.makeSlice 22 (.int .i64 (n:Int)) (.int .i64 (n:Int))).run Tryz.prog u =
 .ok (.slice (some ⟨u.heap.size,0,none⟩) n n) (u.alloc (.cells (madeCells #[.int .u64 0] n) 51)) :=
 run_make_row' 22 51 (.int .u64 0) 8 Tryz.underlying22 info64 rfl .i64 .i64 n (by omega) (by omega) u
end Go.Proofs.YtmbmohibpkepdaaGreatDoor
namespace Go.Proofs.YtmbmohibpkepdaaGreatDoor
open Go.RowKit
set_option maxHeartbeats 400000 in
theorem view_wide (A:Option Addr) (n c:Nat) (f:Nat→Nat) (w:World) (h:Sl w A n c f) (hn:n≤70368744177664) :
 Calls Tryz.prog 132 #[.slice A n c] w fun e w'=>e=.returned (viewV A c (tl f n))∧w=w':=by
 have hcap:=h.cap
 go_enter Tryz.func132,Tryz.ntmps132
 go_wp2
 go_loop [3] (fun i=>∃ k:Nat,k≤n∧i=.int .i64 k∧Hid (tl f k=tl f n)) (fun i=>(intOf i).toNat)
 case atStart=>exact ⟨n,Nat.le_refl _,rfl,rfl⟩
 case round =>
  obtain ⟨k,hk,rfl,ht⟩:=hrel
  rcases k with _ | m
  · go_wp2
    go_ret
    exact ⟨by rw [← ht.out];rfl,rfl⟩
  · obtain ⟨ad,rfl,hb,hx64,hcell⟩:=h.at_ (k:=m) (by omega)
    have hxd:Hid (tl f (m+1)=if f m=0 then tl f m else m+1):=rfl
    generalize f m=x at *
    by_cases h0:x=0
    · subst h0
      go_wp2
      go_round
      case rel=>exact ⟨m,by omega,by go_num,Lib.hid (by rw [← ht.out,hxd.out,if_pos rfl])⟩
      case measure=>simp [intOf]
    · have hne:((x:Int) != 0)=true:=by simp;omega
      go_wp2
      go_ret
      refine ⟨?_,rfl⟩
      rw [← ht.out,hxd.out,if_neg h0]
      rfl
theorem view_raw (A:Option Addr) (n c:Nat) (f:Nat→Nat) (w:World) (h:Sl w A n c f) (hn:n≤1000000) :
 Calls Tryz.prog 132 #[.slice A n c] w fun e w'=>e=.returned (viewV A c (tl f n))∧w=w':=view_wide A n c f w h (by omega)
end Go.Proofs.YtmbmohibpkepdaaGreatDoor
namespace Go.Proofs.YtmbmohibpkepdaaGreatDoor
open Go.RowKit
theorem add64_run (x y c:Nat) (hc:c≤1) (w:World) :
 ∃ r d:Nat,r+d*B64=x+y+c∧r < B64∧(x < B64→y < B64→d≤1) ∧
  (callFunc 131 #[.int .u64 x,.int .u64 y,.int .u64 c]).run Tryz.prog w=.ok (.value (.tuple #[.int .u64 (r:Int),.int .u64 (d:Int)])) w:=by
 refine ⟨(x+y+c)%18446744073709551616,(x+y+c)/18446744073709551616,?_,?_,?_,?_⟩
 · unfold B64;omega
 · unfold B64;omega
 · unfold B64;omega
 · rw [run_callFunc_extern Tryz.func131 (by kernel_rfl) (by kernel_rfl) (by kernel_rfl) (e:=add64Entry) (by kernel_rfl),run_add64 x y c (by omega) (by omega) (by omega) (by omega)]
   simp only [Result.andThen]
   congr 5 <;> omega
def AddPost (t:TypeId) (w:World) (g N off n:Nat) (F y:Nat→Nat) (m:Nat) (e:Ending) (w':World):Prop :=
 ∃ F' d,e=.returned (.int .u64 ((d:Nat):Int))∧AddInv t 1 w w' g N off F F' y m n d
set_option maxHeartbeats 400000 in
theorem addInto_any (g off n c N:Nat) (F:Nat→Nat) (A:Option Addr) (m cb:Nat) (y:Nat→Nat) (w:World) (hr:Row 51 w g N F) (hoff:off+n≤N) (hN:N≤1000000)
 (hy:Sl w A m cb y) (hmn:m≤n) (hne:0 < m→∀ ad,A=some ad→ad.block≠g) :
 Calls Tryz.prog 179 #[.slice (some ⟨g,off,none⟩) n c,.slice A m cb] w (AddPost 51 w g N off n F y m):=by
 go_enter Tryz.func179,Tryz.ntmps179
 go_wp2
 go_loopw [5,11] (fun cy i wr=>∃ k d F',k≤m∧i=.int .i64 ((k:Nat):Int)∧cy=.int .u64 ((d:Nat):Int)∧AddInv 51 1 w wr g N off F F' y m k d) (fun _ i _=>m-(intOf i).toNat)
 case atStart=>exact ⟨0,0,F,Nat.zero_le _,rfl,rfl,AddInv.start hr⟩
 case round =>
  obtain ⟨k,d,F',hk,rfl,rfl,hinv⟩:=hrel
  by_cases hlt:k < m
  · obtain ⟨ad,rfl,hb,hx64,hcell⟩:=(hy.only hinv.2.2.1 hne).at_ hlt
    have hrc:=hinv.2.1.cell (i:=off+k) (by omega)
    have hrf:=hinv.2.1.frozen (off+k)
    have hF:Hid (F' (off+k)=F (off+k)):=hinv.2.2.2.1 _ (by omega)
    have hFs:=hinv.2.1.2 (off+k) (by omega)
    obtain ⟨r,d',h1,h2,h3,h4⟩:=add64_run (F' (off+k)) (y k) d hinv.1 wr
    have H1:=Lib.hid h1
    clear h1
    go_wp2
    go_roundw
    case rel=>exact ⟨k+1,d',upd F' (off+k) r,by omega,by go_num,rfl,hinv.step (by rw [← hF.out,if_pos hlt];exact H1.out) h2 (h3 hFs hx64)⟩
    case measure=>simp [intOf];omega
  · obtain rfl:k=m:=by omega
    clear hlt hk
    go_wp2
    go_loopw [5,8] (fun cy i wr=>∃ q d F',k≤q∧q≤n∧i=.int .i64 ((q:Nat):Int)∧cy=.int .u64 ((d:Nat):Int)∧AddInv 51 1 w wr g N off F F' y k q d) (fun _ i _=>n-(intOf i).toNat)
    case atStart=>exact ⟨k,d,F',Nat.le_refl _,hmn,rfl,rfl,hinv⟩
    case round =>
     clear hinv
     obtain ⟨q,d,F',hq,hqn,rfl,rfl,hinv⟩:=hrel
     by_cases hlt:q < n
     · by_cases hd:d=0
       · subst hd
         go_wp2
         go_ret
         exact ⟨F',0,rfl,by have:=hinv.rest hq (n-q);rwa [Nat.add_sub_cancel' hqn] at this⟩
       · have hdn:((d:Int) != 0)=true:=by simp;omega
         have hrc:=hinv.2.1.cell (i:=off+q) (by omega)
         have hrf:=hinv.2.1.frozen (off+q)
         have hF:Hid (F' (off+q)=F (off+q)):=hinv.2.2.2.1 _ (by omega)
         have hFs:=hinv.2.1.2 (off+q) (by omega)
         obtain ⟨r,d',h1,h2,h3,h4⟩:=add64_run (F' (off+q)) 0 d hinv.1 wr
         rw [show ((0:Nat):Int)=0 from rfl] at h4
         have H1:=Lib.hid h1
         clear h1
         go_wp2
         go_roundw
         case rel=>exact ⟨q+1,d',upd F' (off+q) r,by omega,by omega,by go_num,rfl,hinv.step (by rw [← hF.out,if_neg (by omega)];exact H1.out) h2 (h3 hFs B64_pos)⟩
         case measure=>simp [intOf];omega
     · obtain rfl:q=n:=by omega
       go_wp2
       go_ret
       exact ⟨F',d,rfl,hinv⟩
end Go.Proofs.YtmbmohibpkepdaaGreatDoor
