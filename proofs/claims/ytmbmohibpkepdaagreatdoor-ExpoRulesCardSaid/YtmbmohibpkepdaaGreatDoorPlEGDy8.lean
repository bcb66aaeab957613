/-
 The calls of nat and of volvelleref01 once more, over numbers: what lies in memory canonically, and how many bits it has.
 dyad.Mul, dyad.Cut.
 dyad.Root: a root, to so many bits.
-/
import Derived.Test.YtmbmohibpkepdaaGreatDoorPlEGNumbers
import Derived.Test.YtmbmohibpkepdaaGreatDoorPlEGNat2
import Derived.Test.YtmbmohibpkepdaaGreatDoorPlEGNat6
import Derived.Test.YtmbmohibpkepdaaGreatDoorPlEGDy2
import Derived.Test.YtmbmohibpkepdaaGreatDoorPlEGRef1
import Derived.Test.YtmbmohibpkepdaaGreatDoorPlEGRef2
namespace Go.Proofs.YtmbmohibpkepdaaGreatDoor
open Go.RowKit
theorem Num.raw {w:World} {v:Value} {V:Nat} (K:Nat) (h:Num w v V) (hV:nb V≤64*K):∃ A n c f,v=.slice A n c∧Sl w A n c f∧n≤K∧Cn n f∧vs B64 f n=V:=h.sl' (nb_lt_words hV)
theorem Num.len {w:World} {A:Option Addr} {n c V:Nat} (K:Nat) (h:Num w (.slice A n c) V) (hV:nb V≤64*K):n≤K:=by
 obtain ⟨_,_,_,_,hh,_,hn,_⟩:=h.raw K hV
 cases hh
 exact hn
def NP (w:World) (V:Nat) (e:Ending) (w':World):Prop:=∃ A p c,e=.returned (.slice A p c)∧Num w' (.slice A p c) V∧Below w.heap.size w w'
theorem NumPost.np {w w':World} {V:Nat} {e:Ending} (h:NumPost w V e w'):NP w V e w':=by
 obtain ⟨v,rfl,⟨A,n,c,f,rfl,hm⟩,b⟩:=h
 exact ⟨A,n,c,rfl,⟨A,n,c,f,rfl,hm⟩,b⟩
def NP2 (w:World) (Q R:Nat) (e:Ending) (w':World):Prop:=∃ A p c B q d,e=.returned (.tuple #[.slice A p c,.slice B q d,.bool true])∧Num w' (.slice A p c) Q∧Num w' (.slice B q d) R∧Below w.heap.size w w'
def NPS (w:World) (V:Nat) (e:Ending) (w':World):Prop:=∃ A p c,e=.returned (.tuple #[.slice A p c,.bool true])∧Num w' (.slice A p c) V∧Below w.heap.size w w'
def IP (w:World) (z:Int) (e:Ending) (w':World):Prop:=e=.returned (.int .i64 z)∧Below w.heap.size w w'
theorem shlN {v:Value} {V s:Nat} (w:World) (h:Num w v V) (hV:nb V≤6000000) (hs:s≤1048576):Calls Tryz.prog 123 #[v,.int .i64 (s:Int)] w (NP w (V*2^s)):=by
 obtain ⟨A,n,c,f,rfl,hs',hn,_,rfl⟩:=h.raw 93750 (by omega)
 exact (shl_any A n c f s w hs' (by omega) hs).mono fun _ _ h=>h.np
theorem shrN {v:Value} {V s:Nat} (w:World) (h:Num w v V) (hV:nb V≤6000000) (hs:s≤1048576):Calls Tryz.prog 136 #[v,.int .i64 (s:Int)] w (NP w (V/2^s)):=by
 obtain ⟨A,n,c,f,rfl,hs',hn,_,rfl⟩:=h.raw 93750 (by omega)
 exact (shr_any A n c f s w hs' (by omega) hs).mono fun _ _ h=>h.np
theorem addN {v u:Value} {V U:Nat} (w:World) (h:Num w v V) (h':Num w u U) (hV:nb V≤6000000) (hU:nb U≤6000000):Calls Tryz.prog 148 #[v,u] w (NP w (V+U)):=by
 obtain ⟨A,n,c,f,rfl,hs,hn,_,rfl⟩:=h.raw 93750 (by omega)
 obtain ⟨B,m,d,g,rfl,hs',hm,_,rfl⟩:=h'.raw 93750 (by omega)
 exact (add_any A B n m c d f g w hs hs' (by omega) (by omega)).mono fun _ _ h=>h.np
theorem mulN {v u:Value} {V U:Nat} (w:World) (h:Num w v V) (h':Num w u U) (hV:nb V≤6000000) (hU:nb U≤6000000):Calls Tryz.prog 80 #[v,u] w (NP w (V*U)):=by
 obtain ⟨A,n,c,f,rfl,hs,hn,_,rfl⟩:=h.raw 93750 (by omega)
 obtain ⟨B,m,d,g,rfl,hs',hm,_,rfl⟩:=h'.raw 93750 (by omega)
 exact (mul_any A B n m c d f g w hs hs' (by omega) (by omega)).mono fun _ _ h=>h.np
theorem cmpNN {v u:Value} {V U:Nat} (w:World) (h:Num w v V) (h':Num w u U) (hV:nb V≤6000000) (hU:nb U≤6000000):Calls Tryz.prog 122 #[v,u] w (IP w (cmpN V U)):=by
 obtain ⟨A,n,c,f,rfl,hs,hn,_,rfl⟩:=h.raw 93750 (by omega)
 obtain ⟨B,m,d,g,rfl,hs',hm,_,rfl⟩:=h'.raw 93750 (by omega)
 exact cmp_any A B n m c d f g w hs hs' (by omega) (by omega)
theorem subN {v u:Value} {V U:Nat} (w:World) (h:Num w v V) (h':Num w u U) (hV:nb V≤6000000) (hU:nb U≤6000000) (hle:U≤V):Calls Tryz.prog 74 #[v,u] w (NPS w (V-U)):=by
 obtain ⟨A,n,c,f,rfl,hs,hn,_,rfl⟩:=h.raw 93750 (by omega)
 obtain ⟨B,m,d,g,rfl,hs',hm,_,rfl⟩:=h'.raw 93750 (by omega)
 refine (sub_yes A B n m c d f g w hs hs' (by omega) (by omega) hle).mono ?_
 rintro e w' ⟨v,rfl,⟨A,n,c,f,rfl,hm⟩,b⟩
 exact ⟨A,n,c,rfl,⟨A,n,c,f,rfl,hm⟩,b⟩
theorem subNo {v u:Value} {V U:Nat} (w:World) (h:Num w v V) (h':Num w u U) (hV:nb V≤6000000) (hU:nb U≤6000000) (hlt:V < U):Calls Tryz.prog 74 #[v,u] w (NoPost w):=by
 obtain ⟨A,n,c,f,rfl,hs,hn,_,rfl⟩:=h.raw 93750 (by omega)
 obtain ⟨B,m,d,g,rfl,hs',hm,_,rfl⟩:=h'.raw 93750 (by omega)
 exact sub_no A B n m c d f g w hs hs' (by omega) (by omega) hlt
theorem divN {v u:Value} {V U:Nat} (w:World) (h:Num w v V) (h':Num w u U) (hV:nb V≤6000000) (hU:nb U≤6000000) (h0:0 < U):Calls Tryz.prog 183 #[v,u] w (NP2 w (V/U) (V%U)):=by
 obtain ⟨A,n,c,f,rfl,hs,hn,_,rfl⟩:=h.raw 93750 (by omega)
 obtain ⟨B,m,d,g,rfl,hs',hm,_,rfl⟩:=h'.raw 93750 (by omega)
 refine (divmod_any A B n m c d f g w hs hs' (by omega) (by omega) h0).mono ?_
 rintro e w' ⟨v,u,rfl,⟨A,n,c,f,rfl,hm⟩,⟨B,m,d,g,rfl,hm'⟩,b⟩
 exact ⟨A,n,c,B,m,d,rfl,⟨A,n,c,f,rfl,hm⟩,⟨B,m,d,g,rfl,hm'⟩,b⟩
theorem bitsN {v:Value} {V:Nat} (w:World) (h:Num w v V) (hV:nb V≤6000000):Calls Tryz.prog 117 #[v] w (IP w (nb V:Int)):=by
 obtain ⟨A,n,c,f,rfl,hs,hn,_,rfl⟩:=h.raw 93750 (by omega)
 refine (bits_any A n c f w hs (by omega)).mono ?_
 rintro e w' ⟨B,rfl,hB,b⟩
 obtain rfl:=nb_eq hB
 exact ⟨rfl,b⟩
theorem rshlN {v:Value} {V s:Nat} (w:World) (h:Num w v V) (hV:nb V≤6000000) (hs:s≤1048576):Calls Tryz.prog 114 #[v,.int .i64 (s:Int)] w (NP w (V*2^s)):=by
 obtain ⟨A,n,c,f,rfl,hs',hn,_,rfl⟩:=h.raw 93750 (by omega)
 exact (rshl_any A n c f s w hs' (by omega) hs).mono fun _ _ h=>h.np
theorem rshrN {v:Value} {V s:Nat} (w:World) (h:Num w v V) (hV:nb V≤6000000) (hs:s≤1048576):Calls Tryz.prog 158 #[v,.int .i64 (s:Int)] w (NP w (V/2^s)):=by
 obtain ⟨A,n,c,f,rfl,hs',hn,_,rfl⟩:=h.raw 93750 (by omega)
 exact (rshr_any A n c f s w hs' (by omega) hs).mono fun _ _ h=>h.np
theorem raddN {v u:Value} {V U:Nat} (w:World) (h:Num w v V) (h':Num w u U) (hV:nb V≤6000000) (hU:nb U≤6000000):Calls Tryz.prog 163 #[v,u] w (NP w (V+U)):=by
 obtain ⟨A,n,c,f,rfl,hs,hn,_,rfl⟩:=h.raw 93750 (by omega)
 obtain ⟨B,m,d,g,rfl,hs',hm,_,rfl⟩:=h'.raw 93750 (by omega)
 exact (radd_any A B n m c d f g w hs hs' (by omega) (by omega)).mono fun _ _ h=>h.np
theorem rcmpNN {v u:Value} {V U:Nat} (w:World) (h:Num w v V) (h':Num w u U) (hV:nb V≤6000000) (hU:nb U≤6000000):Calls Tryz.prog 64 #[v,u] w (IP w (cmpN V U)):=by
 obtain ⟨A,n,c,f,rfl,hs,hn,_,rfl⟩:=h.raw 93750 (by omega)
 obtain ⟨B,m,d,g,rfl,hs',hm,_,rfl⟩:=h'.raw 93750 (by omega)
 exact rcmp_any A B n m c d f g w hs hs' (by omega) (by omega)
theorem rsubN {v u:Value} {V U:Nat} (w:World) (h:Num w v V) (h':Num w u U) (hV:nb V≤6000000) (hU:nb U≤6000000) (hle:U≤V):Calls Tryz.prog 180 #[v,u] w (NPS w (V-U)):=by
 obtain ⟨A,n,c,f,rfl,hs,hn,_,rfl⟩:=h.raw 93750 (by omega)
 obtain ⟨B,m,d,g,rfl,hs',hm,_,rfl⟩:=h'.raw 93750 (by omega)
 refine (rsub_yes A B n m c d f g w hs hs' (by omega) (by omega) hle).mono ?_
 rintro e w' ⟨v,rfl,⟨A,n,c,f,rfl,hm⟩,b⟩
 exact ⟨A,n,c,rfl,⟨A,n,c,f,rfl,hm⟩,b⟩
theorem rtrimN {v:Value} {V:Nat} (w:World) (h:Num w v V) (hV:nb V≤6000000):Calls Tryz.prog 149 #[v] w (NP w V):=by
 obtain ⟨A,n,c,f,rfl,hs,hn,_,rfl⟩:=h.raw 93750 (by omega)
 exact (rtrim_any A n c f w hs (by omega)).mono fun _ _ h=>h.np
def plainV (neg:Bool) (V:Nat) (e:Int):Bool:=if V=0 then decide (e=0) && !neg else decide (V%2=1) && decide (nb V≤MB) && decide (fitE e)
theorem cn_zero {n:Nat} {x:Nat→Nat} (hc:Cn n x) (h:vs B64 x n=0):n=0:=vs_eq_zero B64_pos hc h
theorem plain_V {neg:Bool} {n:Nat} {x:Nat→Nat} {e:Int} (hc:Cn n x):plainB neg n x e=plainV neg (vs B64 x n) e:=by
 unfold plainB plainV
 rcases Nat.eq_zero_or_pos n with h0 | h0
 · subst h0;simp [vs_zero]
 · have hv:vs B64 x n≠0:=fun h=>by have:=cn_zero hc h;omega
   obtain ⟨m,rfl⟩:∃ m,n=m+1:=⟨n-1,by omega⟩
   have h1:x m≠0:=by
    rcases hc with h | h
    · omega
    · simpa using h
   have h2:vs B64 x (m+1)%2=x 0%2:=by
    rw [vs_cons,B64_pow,show (2:Nat)^64=2*2^63 by decide,Nat.mul_assoc,Nat.add_mul_mod_self_left]
   rw [if_neg (by omega),if_neg hv,h2]
   simp [h1]
theorem PlainF.num {w:World} {neg:Bool} {A:Option Addr} {n c:Nat} {x:Nat→Nat} {e:Int} (h:PlainF neg n x e) (hs:Sl w A n c x):Num w (.slice A n c) (vs B64 x n):=⟨A,n,c,x,rfl,hs,h.cn,rfl⟩
theorem makeN {v:Value} {V:Nat} (neg:Bool) (e:Int) (w:World) (h:Num w v V) (hV:nb V≤1000000) (hT:Tab w) (he1:-9223372036854775808≤e) (he2:e≤9223372036854775807) :
 Calls Tryz.prog 75 #[.bool neg,v,.int .i64 e] w (DPost w (mkD neg V e)):=by
 obtain ⟨A,n,c,f,rfl,hs,hn,_,rfl⟩:=h.raw 15625 (by omega)
 exact make_any neg A n c f e w hs (by omega) hT he1 he2
end Go.Proofs.YtmbmohibpkepdaaGreatDoor
namespace Go.Proofs.YtmbmohibpkepdaaGreatDoor
open Go.RowKit
def cutP (ok neg:Bool) (V:Nat) (e p:Int) (up:Bool):DR:=if ok then cutD neg V e false p.toNat up else DR.no
def Six (w w':World) (na:Bool) (A:Option Addr) (n c:Nat) (ea:Int) (nb':Bool) (B:Option Addr) (m d:Nat) (eb:Int):Prop :=
 (w'.cell? ⟨w.heap.size,0,none⟩=some (.bool na)∧w'.cell? ⟨w.heap.size,1,none⟩=some (.slice A n c)∧w'.cell? ⟨w.heap.size,2,none⟩=some (.int .i64 ea)) ∧
  (w'.cell? ⟨w.heap.size+1,0,none⟩=some (.bool nb')∧w'.cell? ⟨w.heap.size+1,1,none⟩=some (.slice B m d)∧w'.cell? ⟨w.heap.size+1,2,none⟩=some (.int .i64 eb))
end Go.Proofs.YtmbmohibpkepdaaGreatDoor
namespace Go.Proofs.YtmbmohibpkepdaaGreatDoor
open Go.RowKit
def rtGo (V:Nat):Nat→Nat
 | 0=>0
 | k+1=>if (k+1)*(k+1)≤V then k+1 else rtGo V k
def rt (V:Nat):Nat:=rtGo V V
theorem nb_mul_le (V z:Nat):nb (V*2^z)≤nb V+z:=by
 rcases Nat.eq_zero_or_pos V with h | h
 · subst h;rw [Nat.zero_mul,nb_zero];omega
 · rw [nb_mul_pow h];omega
end Go.Proofs.YtmbmohibpkepdaaGreatDoor
