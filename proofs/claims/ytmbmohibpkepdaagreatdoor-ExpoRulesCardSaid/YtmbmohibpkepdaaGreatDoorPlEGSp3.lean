/-
 Dyads and spans as they are handed in; blocks of cells of any type.
 The state of a method of a work while it runs: blocks of its own, numbers, the work itself.
 Neg, Point, Sign, as they are handed in.
-/
import Derived.Deep.DeepCutAuto
import Derived.Deep.RegionHeld3
import Derived.Test.YtmbmohibpkepdaaGreatDoorPlEGSp2
namespace Go.Proofs.YtmbmohibpkepdaaGreatDoor
open Go.RowKit
variable {TW:TypeId}
def KC (T:TypeId) (w:World) (g:Nat) (cs:Array Value):Prop:=w.heap[g]?=some (.cells cs T (0,0))∧g < w.heap.size
theorem KC.adv {T:TypeId} {w w':World} {g:Nat} {cs:Array Value} (h:KC T w g cs) (b:Below w.heap.size w w'):KC T w' g cs:=⟨(b.block g h.2).trans h.1,Nat.lt_of_lt_of_le h.2 b.size⟩
theorem KC.only {T:TypeId} {w w':World} {g g':Nat} {cs:Array Value} (h:KC T w g cs) (o:Only w w' g') (hne:g≠g'):KC T w' g cs:=⟨(o.block g h.2 (by simpa using hne)).trans h.1,Nat.lt_of_lt_of_le h.2 o.size⟩
theorem KC.drew {T:TypeId} {w:World} {g:Nat} {cs:Array Value} (h:KC T w g cs):KC T w.drew g cs:=h
theorem KC.made (T:TypeId) (w:World) (cs:Array Value):KC T (w.alloc (.cells cs T)) w.heap.size cs:=⟨heap_alloc_new w _,by simp⟩
theorem KC.at_ {T:TypeId} {w:World} {g:Nat} {cs:Array Value} (h:KC T w g cs) (i:Nat) (v:Value) (hv:cs[i]?=some v):w.cell? ⟨g,i,none⟩=some v:=by
 have h1:=h.1
 simp [World.cell?,h1,hv]
theorem KC.fr {T:TypeId} {w:World} {g:Nat} {cs:Array Value} (h:KC T w g cs) (i:Nat):w.frozen? ⟨g,i,none⟩=false:=by
 have h1:=h.1
 simp [World.frozen?,h1]
theorem KC.b6 {w:World} {g:Nat} {a b c d e f:Value} (h:KC 31 w g #[a,b,c,d,e,f]):Blk6 w g a b c d e f:=h.1
theorem K3.kc {w:World} {g:Nat} {a b c:Value} (h:K3 w g a b c):KC 24 w g #[a,b,c]:=h
theorem Wk.drew {T:TypeId} {w:World} {g:Nat} {p:Int} {bad:Bool} (h:Wk T w g p bad):Wk T w.drew g p bad:=h
def DIn (w:World) (A:Option Addr) (n c:Nat) (r:DR):Prop:=∃ x,Sl w A n c x∧n≤400000∧r.m=vs B64 x n∧r.ok=plainB r.neg n x r.e
section
variable {w w':World} {A:Option Addr} {n c:Nat} {r:DR}
theorem DIn.below (h:DIn w A n c r) (b:Below w.heap.size w w'):DIn w' A n c r:=by
 obtain ⟨x,h1,h2⟩:=h
 exact ⟨x,h1.below b,h2⟩
theorem DIn.wk {T:TypeId} {g:Nat} {p:Int} {bad:Bool} (h:DIn w A n c r) (k:Wk T w g p bad) (o:Only w w' g):DIn w' A n c r:=by
 obtain ⟨x,h1,h2⟩:=h
 exact ⟨x,h1.wk k o,h2⟩
end
structure PlainR (r:DR):Prop where
 pl:plainV r.neg r.m r.e=true
 bits:nb r.m≤16384
 e1:-262144≤r.e
 e2:r.e≤262144
 zero:r.m=0→r.e=0∧r.neg=false
 odd:r.m≠0→r.m%2=1
theorem plainR_of {r:DR} (h:plainV r.neg r.m r.e=true):PlainR r:=by
 have h':=h
 unfold plainV at h
 by_cases h0:r.m=0
 · rw [if_pos h0] at h
   simp only [Bool.and_eq_true,decide_eq_true_eq,Bool.not_eq_true'] at h
   exact ⟨h',by rw [h0,nb_zero];omega,by omega,by omega,fun _=>h,fun h=>absurd h0 h⟩
 · rw [if_neg h0] at h
   simp only [Bool.and_eq_true,decide_eq_true_eq] at h
   obtain ⟨⟨h1,h2⟩,h3⟩:=h
   rw [MB_eq] at h2
   exact ⟨h',h2,h3.1,h3.2,fun h=>absurd h h0,fun _=>h1⟩
section
variable {w w':World} {A:Option Addr} {n c:Nat} {r:DR}
theorem DIn.num (h:DIn w A n c r) (hok:r.ok=true):Num w (.slice A n c) r.m:=by
 obtain ⟨x,h1,h2,h3,h4⟩:=h
 rw [hok] at h4
 rw [h3]
 exact (plain_facts h4.symm).num h1
theorem DIn.plain (h:DIn w A n c r) (hok:r.ok=true):PlainR r:=by
 obtain ⟨x,h1,h2,h3,h4⟩:=h
 rw [hok] at h4
 refine plainR_of ?_
 rw [h3,← plain_V (plain_facts h4.symm).cn]
 exact h4.symm
theorem DIn.of_num (h:Num w (.slice A n c) r.m) (hp:plainV r.neg r.m r.e=true) (hok:r.ok=true):DIn w A n c r:=by
 have P:=plainR_of hp
 have l:=h.len 256 (by have:=P.bits;omega)
 obtain ⟨A',n',c',x,hv,hs,hc,he⟩:=h
 cases hv
 refine ⟨x,hs,by omega,he.symm,?_⟩
 rw [plain_V hc,he,hp,hok]
theorem DIn.len0 (h:DIn w A n c r) (hok:r.ok=true):n=0 ↔ r.m=0:=(h.num hok).empty
end
def PlIf (r:DR):Prop:=r.ok=true→plainV r.neg r.m r.e=true
theorem plIf_mk (neg:Bool) (V:Nat) (e:Int):PlIf (mkD neg V e):=by
 intro h
 unfold mkD at h ⊢
 by_cases h0:V=0
 · rw [if_pos h0];rfl
 · rw [if_neg h0] at h ⊢
   by_cases h1:nb (od V)≤MB∧fitE (e+(v2 V:Int))
   · rw [if_pos h1]
     have h2:=od_spec (show 0 < V by omega)
     have h3:=od_pos (show 0 < V by omega)
     unfold plainV
     rw [if_neg (by simp only;omega)]
     simp only [h2.2,h1.1,h1.2,decide_true,Bool.and_self]
   · rw [if_neg h1] at h;cases h
theorem plIf_zero:PlIf DR.zero:=fun _=>rfl
theorem plIf_no:PlIf DR.no:=fun h=>by cases h
structure SGood (r:SRes):Prop where
 l1:r.lo.ok=true
 l2:plainV r.lo.neg r.lo.m r.lo.e=true
 h1:r.hi.ok=true
 h2:plainV r.hi.neg r.hi.m r.hi.e=true
theorem sgood_no:SGood SRes.no:=⟨rfl,rfl,rfl,rfl⟩
theorem sgood_keep {bad:Bool} {lo hi:DR} (h1:PlIf lo) (h2:PlIf hi):SGood (keepS bad lo hi (lo.ok && hi.ok)):=by
 unfold keepS
 by_cases h:(lo.ok && hi.ok)=true
 · rw [if_pos h]
   rw [Bool.and_eq_true] at h
   exact ⟨h.1,h1 h.1,h.2,h2 h.2⟩
 · rw [if_neg h];exact sgood_no
theorem sgood_two {b:Bool} {lo hi:DR} (h1:PlIf lo) (h2:PlIf hi):SGood (twoS b lo hi):=by
 unfold twoS
 cases b
 · exact sgood_keep h1 h2
 · exact sgood_no
theorem SGood.lo_small {r:SRes} (h:SGood r):r.lo.m < B64^256:=nb_lt_words (n:=256) (by have:=(plainR_of h.l2).bits;omega)
theorem SGood.hi_small {r:SRes} (h:SGood r):r.hi.m < B64^256:=nb_lt_words (n:=256) (by have:=(plainR_of h.h2).bits;omega)
def rightI (lo hi:DR):Bool:=rightB (lo.ok && hi.ok) lo.neg hi.neg lo.m hi.m lo.e hi.e
def bad1 (p:Int) (bad:Bool) (lo hi:DR):Bool:=bad || pBad p || !rightI lo hi
def bad2 (p:Int) (bad:Bool) (lo hi lo' hi':DR):Bool:=bad || pBad p || !(rightI lo hi && rightI lo' hi')
structure RightF (lo hi:DR):Prop where
 l:lo.ok=true
 h:hi.ok=true
 le:ordD lo.neg hi.neg lo.m hi.m lo.e hi.e≤0
theorem rightF_of {lo hi:DR} (h:rightI lo hi=true):RightF lo hi:=by
 unfold rightI rightB at h
 simp only [Bool.and_eq_true,decide_eq_true_eq] at h
 exact ⟨h.1.1,h.1.2,h.2⟩
theorem bad1_false {p:Int} {bad:Bool} {lo hi:DR} (h:bad1 p bad lo hi=false):bad=false∧(1≤p∧p≤8192)∧RightF lo hi:=by
 unfold bad1 pBad at h
 simp only [Bool.or_eq_false_iff,decide_eq_false_iff_not,Bool.not_eq_false'] at h
 exact ⟨h.1.1,by omega,rightF_of h.2⟩
theorem bad2_false {p:Int} {bad:Bool} {lo hi lo' hi':DR} (h:bad2 p bad lo hi lo' hi'=false):bad=false∧(1≤p∧p≤8192)∧RightF lo hi∧RightF lo' hi':=by
 unfold bad2 pBad at h
 simp only [Bool.or_eq_false_iff,decide_eq_false_iff_not,Bool.not_eq_false',Bool.and_eq_true] at h
 exact ⟨h.1.1,by omega,rightF_of h.2.1,rightF_of h.2.2⟩
theorem take1 {lo hi:DR} {A B:Option Addr} {n c m d:Nat} (g:Nat) (p:Int) (bad:Bool) (w:World) (hW:Wk TW w g p bad) (ha:DIn w A n c lo) (hb:DIn w B m d hi) :
 Calls Tryz.prog 42 #[.pointer (some ⟨g,0,none⟩),.slice (some ⟨w.heap.size,0,none⟩) 1 1] (w.alloc (co6 (.bool lo.neg) (.slice A n c) (.int .i64 lo.e) (.bool hi.neg) (.slice B m d) (.int .i64 hi.e))) (TakeP TW w g p (bad1 p bad lo hi)):=by
 obtain ⟨x,a1,a2,a3,a4⟩:=ha
 obtain ⟨y,b1,b2,b3,b4⟩:=hb
 refine (takes_one lo.neg hi.neg A B n c m d x y lo.e hi.e g p bad w hW a1 b1 a2 b2).mono ?_
 rintro e w' ⟨rfl,h1,h2⟩
 have e1:badOne p bad lo.neg hi.neg n m x y lo.e hi.e=bad1 p bad lo hi:=by unfold badOne bad1 rightI;rw [a3,a4,b3,b4]
 rw [e1] at h1 ⊢
 exact ⟨rfl,h1,h2⟩
abbrev co12 (a b c d e f a' b' c' d' e' f':Value):Obj:=.cells #[a,b,c,d,e,f,a',b',c',d',e',f'] 31
def two (na nb' na2 nb2:Bool) (A B A2 B2:Option Addr) (n c m d n2 c2 m2 d2:Nat) (x y x2 y2:Nat→Nat) (ea eb ea2 eb2:Int):SPL :=
 ⟨⟨fun j=>if j=0 then na else na2,fun j=>if j=0 then A else A2,fun j=>if j=0 then n else n2,fun j=>if j=0 then c else c2,fun j=>if j=0 then x else x2,fun j=>if j=0 then ea else ea2⟩,
  ⟨fun j=>if j=0 then nb' else nb2,fun j=>if j=0 then B else B2,fun j=>if j=0 then m else m2,fun j=>if j=0 then d else d2,fun j=>if j=0 then y else y2,fun j=>if j=0 then eb else eb2⟩⟩
theorem sls_two (na nb' na2 nb2:Bool) (A B A2 B2:Option Addr) (n c m d n2 c2 m2 d2:Nat) (x y x2 y2:Nat→Nat) (ea eb ea2 eb2:Int) (w:World) (ha:Sl w A n c x) (hb:Sl w B m d y) (ha2:Sl w A2 n2 c2 x2) (hb2:Sl w B2 m2 d2 y2) :
 SLs (w.alloc (co12 (.bool na) (.slice A n c) (.int .i64 ea) (.bool nb') (.slice B m d) (.int .i64 eb) (.bool na2) (.slice A2 n2 c2) (.int .i64 ea2) (.bool nb2) (.slice B2 m2 d2) (.int .i64 eb2))) (some ⟨w.heap.size,0,none⟩) 2 2 (two na nb' na2 nb2 A B A2 B2 n c m d n2 c2 m2 d2 x y x2 y2 ea eb ea2 eb2):=by
 have bB:=alloc_bel w (co12 (.bool na) (.slice A n c) (.int .i64 ea) (.bool nb') (.slice B m d) (.int .i64 eb) (.bool na2) (.slice A2 n2 c2) (.int .i64 ea2) (.bool nb2) (.slice B2 m2 d2) (.int .i64 eb2))
 have hcell:∀ i v,(#[.bool na,.slice A n c,.int .i64 ea,.bool nb',.slice B m d,.int .i64 eb,.bool na2,.slice A2 n2 c2,.int .i64 ea2,.bool nb2,.slice B2 m2 d2,.int .i64 eb2]:Array Value)[i]?=some v →
  (w.alloc (co12 (.bool na) (.slice A n c) (.int .i64 ea) (.bool nb') (.slice B m d) (.int .i64 eb) (.bool na2) (.slice A2 n2 c2) (.int .i64 ea2) (.bool nb2) (.slice B2 m2 d2) (.int .i64 eb2))).cell? ⟨w.heap.size,i,none⟩=some v:=fun i v h=>by
  rw [World.cell?_alloc_at _ _ _ _ (by simp)];exact h
 refine ⟨Nat.le_refl _,fun _=>⟨_,rfl,by simp,fun j hj=>?_⟩,fun j hj=>?_⟩
 · have:j=0∨j=1:=by omega
   rcases this with rfl | rfl
   · exact ⟨⟨hcell 0 _ rfl,hcell 1 _ rfl,hcell 2 _ rfl⟩,⟨hcell 3 _ rfl,hcell 4 _ rfl,hcell 5 _ rfl⟩⟩
   · exact ⟨⟨hcell 6 _ rfl,hcell 7 _ rfl,hcell 8 _ rfl⟩,⟨hcell 9 _ rfl,hcell 10 _ rfl,hcell 11 _ rfl⟩⟩
 · have:j=0∨j=1:=by omega
   rcases this with rfl | rfl
   · exact ⟨ha.below bB,hb.below bB⟩
   · exact ⟨ha2.below bB,hb2.below bB⟩
theorem take2 {lo hi lo' hi':DR} {A B A' B':Option Addr} {n c m d n' c' m' d':Nat} (g:Nat) (p:Int) (bad:Bool) (w:World) (hW:Wk TW w g p bad) (ha:DIn w A n c lo) (hb:DIn w B m d hi) (ha':DIn w A' n' c' lo') (hb':DIn w B' m' d' hi') :
 Calls Tryz.prog 42 #[.pointer (some ⟨g,0,none⟩),.slice (some ⟨w.heap.size,0,none⟩) 2 2]
  (w.alloc (co12 (.bool lo.neg) (.slice A n c) (.int .i64 lo.e) (.bool hi.neg) (.slice B m d) (.int .i64 hi.e) (.bool lo'.neg) (.slice A' n' c') (.int .i64 lo'.e) (.bool hi'.neg) (.slice B' m' d') (.int .i64 hi'.e))) (TakeP TW w g p (bad2 p bad lo hi lo' hi')):=by
 obtain ⟨x,a1,a2,a3,a4⟩:=ha
 obtain ⟨y,b1,b2,b3,b4⟩:=hb
 obtain ⟨x',a1',a2',a3',a4'⟩:=ha'
 obtain ⟨y',b1',b2',b3',b4'⟩:=hb'
 have b:=alloc_bel w (co12 (.bool lo.neg) (.slice A n c) (.int .i64 lo.e) (.bool hi.neg) (.slice B m d) (.int .i64 hi.e) (.bool lo'.neg) (.slice A' n' c') (.int .i64 lo'.e) (.bool hi'.neg) (.slice B' m' d') (.int .i64 hi'.e))
 refine (takes_any _ 2 2 _ g p bad _ (hW.below b) (sls_two lo.neg hi.neg lo'.neg hi'.neg A B A' B' n c m d n' c' m' d' x y x' y' lo.e hi.e lo'.e hi'.e w a1 b1 a1' b1') (fun j hj=>?_) (by omega)).mono ?_
 · have:j=0∨j=1:=by omega
   rcases this with rfl | rfl
   · exact ⟨a2,b2⟩
   · exact ⟨a2',b2'⟩
 · rintro e w' ⟨rfl,h1,h2⟩
   have e1:nBad p bad (two lo.neg hi.neg lo'.neg hi'.neg A B A' B' n c m d n' c' m' d' x y x' y' lo.e hi.e lo'.e hi'.e) 2=bad2 p bad lo hi lo' hi':=by
    unfold nBad bad2 rightL rightL rightL right1 two DL.v rightI
    rw [a3,a4,b3,b4,a3',a4',b3',b4']
    simp
   rw [e1] at h1 ⊢
   exact ⟨rfl,h1,(only_of_below g b).trans h2⟩
end Go.Proofs.YtmbmohibpkepdaaGreatDoor
namespace Go.Proofs.YtmbmohibpkepdaaGreatDoor
open Go.RowKit
def KS (w:World) (g:Nat):List (TypeId×Nat×Array Value)→Prop
 | []=>True
 | (T,a,cs) :: r=>(KC T w a cs∧a≠g)∧KS w g r
def NS (w:World):List (Value×Nat)→Prop
 | []=>True
 | (v,V) :: r=>Num w v V∧NS w r
theorem KS.adv {w w':World} {g:Nat} (b:Below w.heap.size w w'):∀ {ks:List (TypeId×Nat×Array Value)},KS w g ks→KS w' g ks
 | [],_=>trivial
 | (_,_,_) :: _,h=>⟨⟨h.1.1.adv b,h.1.2⟩,KS.adv b h.2⟩
theorem KS.only {w w':World} {g:Nat} (o:Only w w' g):∀ {ks:List (TypeId×Nat×Array Value)},KS w g ks→KS w' g ks
 | [],_=>trivial
 | (_,_,_) :: _,h=>⟨⟨h.1.1.only o h.1.2,h.1.2⟩,KS.only o h.2⟩
theorem KS.drew {w:World} {g:Nat}:∀ {ks:List (TypeId×Nat×Array Value)},KS w g ks→KS w.drew g ks
 | [],_=>trivial
 | (_,_,_) :: _,h=>⟨⟨h.1.1.drew,h.1.2⟩,KS.drew h.2⟩
theorem NS.adv {w w':World} (b:Below w.heap.size w w'):∀ {ns:List (Value×Nat)},NS w ns→NS w' ns
 | [],_=>trivial
 | (_,_) :: _,h=>⟨h.1.below b,NS.adv b h.2⟩
theorem NS.wk {T:TypeId} {w w':World} {g:Nat} {p:Int} {bad:Bool} (k:Wk T w g p bad) (o:Only w w' g):∀ {ns:List (Value×Nat)},NS w ns→NS w' ns
 | [],_=>trivial
 | (_,_) :: _,h=>⟨num_wk k o h.1,NS.wk k o h.2⟩
theorem NS.drew {w:World}:∀ {ns:List (Value×Nat)},NS w ns→NS w.drew ns
 | [],_=>trivial
 | (_,_) :: _,h=>⟨h.1.below (Below.refl _ w).drew,NS.drew h.2⟩
structure St (T:TypeId) (w:World) (g:Nat) (p:Int) (bad:Bool) (wi:World) (ks:List (TypeId×Nat×Array Value)) (ns:List (Value×Nat)):Prop where
 hg:g < w.heap.size
 O:Only w wi g
 W:Wk T wi g p bad
 ks:KS wi g ks
 ns:NS wi ns
section
variable {T:TypeId} {w wi wj:World} {g:Nat} {p:Int} {bad bad':Bool} {ks:List (TypeId×Nat×Array Value)} {ns:List (Value×Nat)}
theorem St.below (h:St T w g p bad wi ks ns) (b:Below wi.heap.size wi wj):St T w g p bad wj ks ns:=⟨h.hg,only_below h.O b,h.W.below b,h.ks.adv b,h.ns.adv b⟩
theorem St.only (h:St T w g p bad wi ks ns) (o:Only wi wj g) (W':Wk T wj g p bad'):St T w g p bad' wj ks ns:=⟨h.hg,h.O.trans o,W',h.ks.only o,h.ns.wk h.W o⟩
theorem St.drew (h:St T w g p bad wi ks ns):St T w g p bad wi.drew ks ns:=⟨h.hg,only_below h.O (Below.refl _ wi).drew,h.W.drew,h.ks.drew,h.ns.drew⟩
theorem St.num (h:St T w g p bad wi ks ns) {v:Value} {V:Nat} (n:Num wi v V):St T w g p bad wi ks ((v,V) :: ns):=⟨h.hg,h.O,h.W,h.ks,n,h.ns⟩
theorem St.lt (h:St T w g p bad wi ks ns):g < wi.heap.size:=Nat.lt_of_lt_of_le h.hg h.O.size
theorem St.blk (h:St T w g p bad wi ks ns) {T':TypeId} {a:Nat} {cs:Array Value} (k:KC T' wi a cs) (hne:a≠g):St T w g p bad wi ((T',a,cs) :: ks) ns:=⟨h.hg,h.O,h.W,⟨⟨k,hne⟩,h.ks⟩,h.ns⟩
theorem St.alloc (h:St T w g p bad wi ks ns) (T':TypeId) (cs:Array Value):St T w g p bad (wi.alloc (.cells cs T')) ((T',wi.heap.size,cs) :: ks) ns :=
 (h.below (alloc_bel wi _)).blk (KC.made T' wi cs) (by have:=h.lt;omega)
theorem St.wc (h:St T w g p bad wi ks ns):wi.cell? ⟨g,0,none⟩=some (.int .i64 p)∧wi.cell? ⟨g,1,none⟩=some (.bool bad):=h.W.cell
theorem St.size (h:St T w g p bad wi ks ns):w.heap.size≤wi.heap.size:=h.O.size
theorem St.start (hW:Wk T w g p bad):St T w g p bad w [] []:=⟨hW.2,Only.refl w g,hW,trivial,trivial⟩
theorem St.other (h:St T w g p bad wi ks ns) {a:Nat} (o:Only wi wj a) (ha:w.heap.size≤a) (hk:KS wj g ks) (hn:NS wj ns):St T w g p bad wj ks ns :=
 ⟨h.hg,only_new h.O o ha,h.W.only o (by have:=h.hg;omega),hk,hn⟩
end
theorem KC.put3 {T:TypeId} {w:World} {g:Nat} {a b c:Value} (h:KC T w g #[a,b,c]) (x y z:Value):KC T (put3 w g x y z) g #[x,y,z]:=by
 obtain ⟨h1,h2⟩:=h
 refine ⟨?_,by simpa [put3,World.setCell] using h2⟩
 simp [World.setCell,Array.getElem?_modify,h1]
theorem KC.put6 {T:TypeId} {w:World} {g:Nat} {a b c d e f:Value} (h:KC T w g #[a,b,c,d,e,f]) (x y z x' y' z':Value):KC T (put6 w g x y z x' y' z') g #[x,y,z,x',y',z']:=by
 obtain ⟨h1,h2⟩:=h
 refine ⟨?_,by simpa [put6,World.setCell] using h2⟩
 simp [World.setCell,Array.getElem?_modify,h1]
abbrev zd:Array Value:=#[.bool false,.slice none 0 0,.int .i64 0]
abbrev zs:Array Value:=#[.bool false,.slice none 0 0,.int .i64 0,.bool false,.slice none 0 0,.int .i64 0]
theorem num_put3 {w:World} {v:Value} {V g:Nat} {T:TypeId} {na:Bool} {A:Option Addr} {n c:Nat} {e:Int} (h:Num w v V) (k:KC T w g #[.bool na,.slice A n c,.int .i64 e]) (x y z:Value):Num (put3 w g x y z) v V:=by
 obtain ⟨A',n',cp,f,hv,hs,hc,he⟩:=h
 refine ⟨A',n',cp,f,hv,hs.only (only_put3 w g x y z) ?_,hc,he⟩
 intro hn ad e he'
 obtain ⟨ad',e',_,_,hc⟩:=hs.at_ (k:=0) hn
 rw [e] at e'
 injection e' with e'
 subst e'
 have hb:=k.1
 rw [show ad.add 0=ad from by simp [Addr.add]] at hc
 simp only [World.cell?,he',hb] at hc
 split at hc
 · cases hc
 · rcases h3:ad.off with _ | _ | _ | k
   · rw [h3] at hc;simp at hc
   · rw [h3] at hc;simp at hc
   · rw [h3] at hc;simp at hc
   · rw [h3] at hc;simp at hc
theorem NS.put3 {w:World} {g:Nat} {T:TypeId} {na:Bool} {A:Option Addr} {n c:Nat} {e:Int} (k:KC T w g #[.bool na,.slice A n c,.int .i64 e]) (x y z:Value):∀ {ns:List (Value×Nat)},NS w ns→NS (put3 w g x y z) ns
 | [],_=>trivial
 | (_,_) :: _,h=>⟨num_put3 h.1 k x y z,NS.put3 k x y z h.2⟩
def NeS (a:Nat):List (TypeId×Nat×Array Value)→Prop
 | []=>True
 | (_,b,_) :: r=>b≠a∧NeS a r
theorem KS.put {w w':World} {g a:Nat} (o:Only w w' a):∀ {ks:List (TypeId×Nat×Array Value)},KS w g ks→NeS a ks→KS w' g ks
 | [],_,_=>trivial
 | (_,_,_) :: _,h,hne=>⟨⟨h.1.1.only o hne.1,h.1.2⟩,KS.put o h.2 hne.2⟩
theorem St.put {T T':TypeId} {w wi:World} {g:Nat} {p:Int} {bad:Bool} {ks:List (TypeId×Nat×Array Value)} {ns:List (Value×Nat)} (h:St T w g p bad wi ks ns) {a:Nat} {na:Bool} {A:Option Addr} {n c:Nat} {e:Int} (k:KC T' wi a #[.bool na,.slice A n c,.int .i64 e])
 (ha:w.heap.size≤a) (hne:NeS a ks) (x y z:Value):St T w g p bad (put3 wi a x y z) ks ns :=
 h.other (only_put3 _ _ _ _ _) ha (h.ks.put (only_put3 _ _ _ _ _) hne) (h.ns.put3 k x y z)
theorem St.putK {T T':TypeId} {w wi:World} {g:Nat} {p:Int} {bad:Bool} {ks:List (TypeId×Nat×Array Value)} {ns:List (Value×Nat)} (h:St T w g p bad wi ks ns) {a:Nat} {na:Bool} {A:Option Addr} {n c:Nat} {e:Int} (k:KC T' wi a #[.bool na,.slice A n c,.int .i64 e])
 (ha:w.heap.size≤a) (hne:NeS a ks) (x y z:Value):St T w g p bad (put3 wi a x y z) ((T',a,#[x,y,z]) :: ks) ns :=
 (h.put k ha hne x y z).blk (k.put3 x y z) (by have:=h.hg;omega)
theorem St.give {T:TypeId} {w wi:World} {g:Nat} {p:Int} {bad:Bool} {ks:List (TypeId×Nat×Array Value)} {ns:List (Value×Nat)} (h:St T w g p bad wi ks ns) {gr:Nat} {lo hi:DR} {A B:Option Addr} {n c m d:Nat}
 (ha:Num wi (.slice A n c) lo.m) (hb:Num wi (.slice B m d) hi.m) (hr:KC 31 wi gr zs) (h1:w.heap.size≤gr) :
 Num (put6 wi gr (.bool lo.neg) (.slice A n c) (.int .i64 lo.e) (.bool hi.neg) (.slice B m d) (.int .i64 hi.e)) (.slice A n c) lo.m∧Num (put6 wi gr (.bool lo.neg) (.slice A n c) (.int .i64 lo.e) (.bool hi.neg) (.slice B m d) (.int .i64 hi.e)) (.slice B m d) hi.m ∧
 Wk T (put6 wi gr (.bool lo.neg) (.slice A n c) (.int .i64 lo.e) (.bool hi.neg) (.slice B m d) (.int .i64 hi.e)) g p bad∧Only w (put6 wi gr (.bool lo.neg) (.slice A n c) (.int .i64 lo.e) (.bool hi.neg) (.slice B m d) (.int .i64 hi.e)) g :=
 spost_put ha hb h.W h.O hr.b6 h1 h.hg
theorem st1 {T:TypeId} {w:World} {g:Nat} {p:Int} {bad:Bool} (hW:Wk T w g p bad) (a b c d e f:Value) :
 St T w g p bad ((w.alloc (co6 a b c d e f)).alloc z6) [(31,w.heap.size+1,zs),(31,w.heap.size,#[a,b,c,d,e,f])] []:=by
 have h:=((St.start hW).alloc 31 #[a,b,c,d,e,f]).alloc 31 zs
 rw [show (w.alloc (.cells #[a,b,c,d,e,f] 31)).heap.size=w.heap.size+1 by simp] at h
 exact h
theorem st2 {T:TypeId} {w:World} {g:Nat} {p:Int} {bad:Bool} (hW:Wk T w g p bad) (a b c d e f a' b' c' d' e' f':Value) :
 St T w g p bad (((w.alloc (co6 a b c d e f)).alloc (co6 a' b' c' d' e' f')).alloc z6) [(31,w.heap.size+1+1,zs),(31,w.heap.size+1,#[a',b',c',d',e',f']),(31,w.heap.size,#[a,b,c,d,e,f])] []:=by
 have h:=(((St.start hW).alloc 31 #[a,b,c,d,e,f]).alloc 31 #[a',b',c',d',e',f']).alloc 31 zs
 rw [show ((w.alloc (.cells #[a,b,c,d,e,f] 31)).alloc (.cells #[a',b',c',d',e',f'] 31)).heap.size=w.heap.size+1+1 by simp,show (w.alloc (.cells #[a,b,c,d,e,f] 31)).heap.size=w.heap.size+1 by simp] at h
 exact h
end Go.Proofs.YtmbmohibpkepdaaGreatDoor
namespace Go.Proofs.YtmbmohibpkepdaaGreatDoor
open Go.RowKit
variable {TW:TypeId}
def negI (r:DR):DR:=if r.ok then (if r.m=0 then DR.zero else ⟨true,!r.neg,r.m,r.e⟩) else DR.no
theorem plIf_negI {r:DR} (h:r.ok=true→PlainR r):PlIf (negI r):=by
 unfold negI
 cases ho:r.ok
 · exact plIf_no
 · simp only [if_true]
   by_cases h0:r.m=0
   · rw [if_pos h0];exact plIf_zero
   · rw [if_neg h0]
     intro _
     have:=(h ho).pl
     unfold plainV at this ⊢
     rw [if_neg h0] at this
     simp only [if_neg h0]
     exact this
theorem neg_len {r:DR} {A:Option Addr} {n c:Nat} {w:World} (h:DIn w A n c r) {x:Nat→Nat} (a3:r.m=vs B64 x n) (a4:r.ok=plainB r.neg n x r.e):negD (plainB r.neg n x r.e) r.neg n (vs B64 x n) r.e=negI r:=by
 unfold negD negI
 rw [← a4,← a3]
 cases ho:r.ok
 · rfl
 · simp only [if_true]
   have:=h.len0 ho
   by_cases h0:r.m=0
   · rw [if_pos h0,if_pos (this.2 h0)]
   · rw [if_neg h0,if_neg (fun h=>h0 (this.1 h))]
def negS (p:Int) (bad:Bool) (lo hi:DR):SRes:=twoS (bad1 p bad lo hi) (negI hi) (negI lo)
def ptI (p:Int) (bad:Bool) (r:DR):SRes:=ptS (bad1 p bad r r) r.neg r.m r.e
def signI (lo hi:DR):Int:=signS (rightI lo hi) lo.neg hi.neg (if lo.m=0 then 0 else 1)
theorem neg_I {lo hi:DR} {A B:Option Addr} {n c m d:Nat} (g:Nat) (p:Int) (bad:Bool) (w:World) (hW:Wk TW w g p bad) (ha:DIn w A n c lo) (hb:DIn w B m d hi) (hT:Tab w) :
 Calls Tryz.prog 69 #[.pointer (some ⟨g,0,none⟩),spv lo.neg A n c lo.e hi.neg B m d hi.e] w (SPost TW w g p (negS p bad lo hi)):=by
 have da:=ha
 have db:=hb
 obtain ⟨x,a1,a2,a3,a4⟩:=ha
 obtain ⟨y,b1,b2,b3,b4⟩:=hb
 have:=sneg_any lo.neg hi.neg A B n c m d x y lo.e hi.e g p bad w hW a1 b1 a2 b2 hT
 rw [neg_len db b3 b4,neg_len da a3 a4,show badOne p bad lo.neg hi.neg n m x y lo.e hi.e=bad1 p bad lo hi by unfold badOne bad1 rightI;rw [a3,a4,b3,b4]] at this
 exact this
theorem point_I {r:DR} {A:Option Addr} {n c:Nat} (g:Nat) (p:Int) (bad:Bool) (w:World) (hW:Wk TW w g p bad) (ha:DIn w A n c r) :
 Calls Tryz.prog 13 #[.pointer (some ⟨g,0,none⟩),dyv r.neg A n c r.e] w (SPost TW w g p (ptI p bad r)):=by
 obtain ⟨x,a1,a2,a3,a4⟩:=ha
 have:=point_any r.neg A n c x r.e g p bad w hW a1 a2
 rw [show badOne p bad r.neg r.neg n n x x r.e r.e=bad1 p bad r r by unfold badOne bad1 rightI;rw [a3,a4],← a3] at this
 exact this
theorem sign_I {lo hi:DR} {A B:Option Addr} {n c m d:Nat} (w:World) (ha:DIn w A n c lo) (hb:DIn w B m d hi) :
 Calls Tryz.prog 61 #[spv lo.neg A n c lo.e hi.neg B m d hi.e] w fun o w'=>o=.returned (.int .i64 (signI lo hi))∧Below w.heap.size w w':=by
 have da:=ha
 obtain ⟨x,a1,a2,a3,a4⟩:=ha
 obtain ⟨y,b1,b2,b3,b4⟩:=hb
 have h:=sign_span lo.neg hi.neg A B n c m d x y lo.e hi.e w a1 b1 a2 b2
 have e:signS (rightB (plainB lo.neg n x lo.e && plainB hi.neg m y hi.e) lo.neg hi.neg (vs B64 x n) (vs B64 y m) lo.e hi.e) lo.neg hi.neg n=signI lo hi:=by
  unfold signI rightI
  rw [a3,a4,b3,b4]
  rw [← a3,← a4,← b3,← b4]
  cases hr:rightB (lo.ok && hi.ok) lo.neg hi.neg lo.m hi.m lo.e hi.e
  · rfl
  · have:=da.len0 (rightF_of (lo:=lo) (hi:=hi) hr).l
    unfold signS
    simp only [if_true]
    by_cases h0:lo.m=0
    · rw [if_pos h0,this.2 h0]
    · rw [if_neg h0]
      have h1:n≠0:=fun h=>h0 (this.1 h)
      simp [h1]
 rw [e] at h
 exact h
end Go.Proofs.YtmbmohibpkepdaaGreatDoor
