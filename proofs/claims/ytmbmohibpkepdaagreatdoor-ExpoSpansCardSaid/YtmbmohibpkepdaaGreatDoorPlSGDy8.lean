import Derived.Test.YtmbmohibpkepdaaGreatDoorPlSGDy1
import Derived.Test.YtmbmohibpkepdaaGreatDoorPlSGRef1
open Go.Proofs.Tryz renaming prog->lY
namespace Go.Proofs.YtmbmohibpkepdaaGreatDoor
open Go.RowKit
variable {A:OA} {U V c n s:Nat} {u v:Value} {w:World} {x:Nat->Nat}
theorem am.raw (K:Nat)(h:am w v V)(hV:nb V<=64*K):∃ A n c f,v=.slice A n c/\Sl w A n c f/\n<=K/\Cn n f/\vs ai f n=V:=h.sl' (fW hV)
theorem am.len (K:Nat)(h:am w (.slice A n c) V)(hV:nb V<=64*K):n<=K:=by
 obtain⟨_,_,_,_,hh,_,hn,_⟩:=h.raw K hV;cases hh;exact hn
def NP (w:World)(V:Nat)(e:Ending)(w':World):Prop:=∃ A p c,e=.returned (.slice A p c)/\am w' (.slice A p c) V/\Below w.heap.size w w'
theorem cU.np {w':World}{e:Ending}(h:cU w V e w'):NP w V e w':=by
 obtain⟨v,rfl,⟨A,n,c,f,rfl,hm⟩,b⟩:=h;exact⟨A,n,c,rfl,⟨A,n,c,f,rfl,hm⟩,b⟩
def Fz (w:World)(Q R:Nat)(e:Ending)(w':World):Prop:=∃ A p c B q d,e=.returned (.tuple #[.slice A p c,.slice B q d,.bool true])/\am w' (.slice A p c) Q/\am w' (.slice B q d) R/\Below w.heap.size w w'
def FI (w:World)(V:Nat)(e:Ending)(w':World):Prop:=∃ A p c,e=.returned (.tuple #[.slice A p c,.bool true])/\am w' (.slice A p c) V/\Below w.heap.size w w'
def IP (w:World)(z:Int)(e:Ending)(w':World):Prop:=e=.returned (.int .i64 z)/\Below w.heap.size w w'
theorem oV (w:World)(h:am w v V)(hV:nb V<=6000000)(hs:s<=1048576):Calls lY 123 #[v,.int .i64 (s:Int)] w (NP w (V*2^s)):=by
 obtain⟨A,n,c,f,rfl,hs',hn,_,rfl⟩:=h.raw 93750 (by omega)
 exact(mQ A n c f s w hs' (by omega) hs).mono fun _ _ h=>h.np
theorem Bh (w:World)(h:am w v V)(hV:nb V<=6000000)(hs:s<=1048576):Calls lY 136 #[v,.int .i64 (s:Int)] w (NP w (V/2^s)):=by
 obtain⟨A,n,c,f,rfl,hs',hn,_,rfl⟩:=h.raw 93750 (by omega)
 exact(mP A n c f s w hs' (by omega) hs).mono fun _ _ h=>h.np
theorem Co (w:World)(h:am w v V)(h':am w u U)(hV:nb V<=6000000)(hU:nb U<=6000000):Calls lY 148 #[v,u] w (NP w (V+U)):=by
 obtain⟨A,n,c,f,rfl,hs,hn,_,rfl⟩:=h.raw 93750 (by omega);obtain⟨B,m,d,g,rfl,hs',hm,_,rfl⟩:=h'.raw 93750 (by omega)
 exact(nj A B n m c d f g w hs hs' (by omega) (by omega)).mono fun _ _ h=>h.np
theorem zC (w:World)(h:am w v V)(h':am w u U)(hV:nb V<=6000000)(hU:nb U<=6000000):Calls lY 80 #[v,u] w (NP w (V*U)):=by
 obtain⟨A,n,c,f,rfl,hs,hn,_,rfl⟩:=h.raw 93750 (by omega);obtain⟨B,m,d,g,rfl,hs',hm,_,rfl⟩:=h'.raw 93750 (by omega)
 exact(BL A B n m c d f g w hs hs' (by omega) (by omega)).mono fun _ _ h=>h.np
theorem Al (w:World)(h:am w v V)(h':am w u U)(hV:nb V<=6000000)(hU:nb U<=6000000):Calls lY 122 #[v,u] w (IP w (cQ V U)):=by
 obtain⟨A,n,c,f,rfl,hs,hn,_,rfl⟩:=h.raw 93750 (by omega);obtain⟨B,m,d,g,rfl,hs',hm,_,rfl⟩:=h'.raw 93750 (by omega);exact ic A B n m c d f g w hs hs' (by omega) (by omega)
theorem Ey (w:World)(h:am w v V)(h':am w u U)(hV:nb V<=6000000)(hU:nb U<=6000000)(hle:U<=V):Calls lY 74 #[v,u] w (FI w (V-U)):=by
 obtain⟨A,n,c,f,rfl,hs,hn,_,rfl⟩:=h.raw 93750 (by omega);obtain⟨B,m,d,g,rfl,hs',hm,_,rfl⟩:=h'.raw 93750 (by omega);refine(kH A B n m c d f g w hs hs' (by omega) (by omega) hle).mono ?_;rintro e w' ⟨v,rfl,⟨A,n,c,f,rfl,hm⟩,b⟩;exact⟨A,n,c,rfl,⟨A,n,c,f,rfl,hm⟩,b⟩
theorem Ew (w:World)(h:am w v V)(h':am w u U)(hV:nb V<=6000000)(hU:nb U<=6000000)(hlt:V < U):Calls lY 74 #[v,u] w (AA w):=by
 obtain⟨A,n,c,f,rfl,hs,hn,_,rfl⟩:=h.raw 93750 (by omega);obtain⟨B,m,d,g,rfl,hs',hm,_,rfl⟩:=h'.raw 93750 (by omega);exact us A B n m c d f g w hs hs' (by omega) (by omega) hlt
theorem Ff (w:World)(h:am w v V)(h':am w u U)(hV:nb V<=6000000)(hU:nb U<=6000000)(h0:0 < U):Calls lY 183 #[v,u] w (Fz w (V/U) (V%U)):=by
 obtain⟨A,n,c,f,rfl,hs,hn,_,rfl⟩:=h.raw 93750 (by omega);obtain⟨B,m,d,g,rfl,hs',hm,_,rfl⟩:=h'.raw 93750 (by omega);refine(oB A B n m c d f g w hs hs' (by omega) (by omega) h0).mono ?_;rintro e w' ⟨v,u,rfl,⟨A,n,c,f,rfl,hm⟩,⟨B,m,d,g,rfl,hm'⟩,b⟩;exact⟨A,n,c,B,m,d,rfl,⟨A,n,c,f,rfl,hm⟩,⟨B,m,d,g,rfl,hm'⟩,b⟩
theorem Dg (w:World)(h:am w v V)(hV:nb V<=6000000):Calls lY 117 #[v] w (IP w (nb V:Int)):=by
 obtain⟨A,n,c,f,rfl,hs,hn,_,rfl⟩:=h.raw 93750 (by omega);refine(tU A n c f w hs (by omega)).mono ?_;rintro e w' ⟨B,rfl,hB,b⟩;obtain rfl:=hJ hB;exact⟨rfl,b⟩
theorem vW (w:World)(h:am w v V)(hV:nb V<=6000000)(hs:s<=1048576):Calls lY 114 #[v,.int .i64 (s:Int)] w (NP w (V*2^s)):=by
 obtain⟨A,n,c,f,rfl,hs',hn,_,rfl⟩:=h.raw 93750 (by omega)
 exact(yO A n c f s w hs' (by omega) hs).mono fun _ _ h=>h.np
theorem yN (w:World)(h:am w v V)(hV:nb V<=6000000)(hs:s<=1048576):Calls lY 158 #[v,.int .i64 (s:Int)] w (NP w (V/2^s)):=by
 obtain⟨A,n,c,f,rfl,hs',hn,_,rfl⟩:=h.raw 93750 (by omega)
 exact(sC A n c f s w hs' (by omega) hs).mono fun _ _ h=>h.np
theorem yZ (w:World)(h:am w v V)(h':am w u U)(hV:nb V<=6000000)(hU:nb U<=6000000):Calls lY 163 #[v,u] w (NP w (V+U)):=by
 obtain⟨A,n,c,f,rfl,hs,hn,_,rfl⟩:=h.raw 93750 (by omega);obtain⟨B,m,d,g,rfl,hs',hm,_,rfl⟩:=h'.raw 93750 (by omega)
 exact(yY A B n m c d f g w hs hs' (by omega) (by omega)).mono fun _ _ h=>h.np
theorem uG (w:World)(h:am w v V)(h':am w u U)(hV:nb V<=6000000)(hU:nb U<=6000000):Calls lY 64 #[v,u] w (IP w (cQ V U)):=by
 obtain⟨A,n,c,f,rfl,hs,hn,_,rfl⟩:=h.raw 93750 (by omega);obtain⟨B,m,d,g,rfl,hs',hm,_,rfl⟩:=h'.raw 93750 (by omega);exact yW A B n m c d f g w hs hs' (by omega) (by omega)
theorem vV (w:World)(h:am w v V)(h':am w u U)(hV:nb V<=6000000)(hU:nb U<=6000000)(hle:U<=V):Calls lY 180 #[v,u] w (FI w (V-U)):=by
 obtain⟨A,n,c,f,rfl,hs,hn,_,rfl⟩:=h.raw 93750 (by omega);obtain⟨B,m,d,g,rfl,hs',hm,_,rfl⟩:=h'.raw 93750 (by omega);refine(yM A B n m c d f g w hs hs' (by omega) (by omega) hle).mono ?_;rintro e w' ⟨v,rfl,⟨A,n,c,f,rfl,hm⟩,b⟩;exact⟨A,n,c,rfl,⟨A,n,c,f,rfl,hm⟩,b⟩
theorem EN (w:World)(h:am w v V)(h':am w u U)(hV:nb V<=6000000)(hU:nb U<=6000000)(h0:0 < U):Calls lY 159 #[v,u] w (Fz w (V/U) (V%U)):=by
 obtain⟨A,n,c,f,rfl,hs,hn,_,rfl⟩:=h.raw 93750 (by omega);obtain⟨B,m,d,g,rfl,hs',hm,_,rfl⟩:=h'.raw 93750 (by omega);refine(yU A B n m c d f g w hs hs' (by omega) (by omega) h0).mono ?_;rintro e w' ⟨v,u,rfl,⟨A,n,c,f,rfl,hm⟩,⟨B,m,d,g,rfl,hm'⟩,b⟩;exact⟨A,n,c,B,m,d,rfl,⟨A,n,c,f,rfl,hm⟩,⟨B,m,d,g,rfl,hm'⟩,b⟩
theorem nH (w:World)(h:am w v V)(hV:nb V<=6000000):Calls lY 84 #[v] w (IP w (nb V:Int)):=by
 obtain⟨A,n,c,f,rfl,hs,hn,_,rfl⟩:=h.raw 93750 (by omega);refine(pF A n c f w hs (by omega)).mono ?_;rintro e w' ⟨B,rfl,hB,b⟩;obtain rfl:=hJ hB;exact⟨rfl,b⟩
theorem Ds (w:World)(h:am w v V)(hV:nb V<=6000000):Calls lY 149 #[v] w (NP w V):=by
 obtain⟨A,n,c,f,rfl,hs,hn,_,rfl⟩:=h.raw 93750 (by omega)
 exact(eO A n c f w hs (by omega)).mono fun _ _ h=>h.np
def aR (neg:Bool)(V:Nat)(e:Int):Bool:=if V=0 then decide (e=0) && !neg else decide (V%2=1) && decide (nb V<=MB) && decide (cR e)
theorem rr (hc:Cn n x)(h:vs ai x n=0):n=0:=jZ bm hc h
theorem mS {neg:Bool}{e:Int}(hc:Cn n x):aj neg n x e=aR neg (vs ai x n) e:=by
 unfold aj aR
 rcases Nat.eq_zero_or_pos n with h0 | h0
 . subst h0;simp[aL]
 . have hv:vs ai x n≠0:=fun h=>by have:=rr hc h;omega
   obtain⟨m,rfl⟩:∃ m,n=m+1:=⟨n-1,by omega⟩
   have h1:x m≠0:=by
    rcases hc with h | h
    . omega
    . simpa using h
   have h2:vs ai x (m+1)%2=x 0%2:=by
    rw[fv,bv,show(2:Nat)^64=2*2^63 by decide,Nat.mul_assoc,Nat.add_mul_mod_self_left]
   rw[if_neg (by omega),if_neg hv,h2]
   simp[h1]
theorem gR.num {neg:Bool}{e:Int}(h:gR neg n x e)(hs:Sl w A n c x):am w (.slice A n c) (vs ai x n):=⟨A,n,c,x,rfl,hs,h.cn,rfl⟩
theorem CY (neg:Bool)(e:Int)(w:World)(h:am w v V)(hV:nb V<=1000000)(hT:bx w)(he1:-9223372036854775808<=e)(he2:e<=9223372036854775807):
 Calls lY 75 #[.bool neg,v,.int .i64 e] w (fI w (bH neg V e)):=by
 obtain⟨A,n,c,f,rfl,hs,hn,_,rfl⟩:=h.raw 15625 (by omega);exact de neg A n c f e w hs (by omega) hT he1 he2
def qY (ok na nb':Bool)(Va Vb:Nat)(ea eb:Int):DR:=if ok then bH (na != nb') (Va*Vb) (ea+eb) else DR.no
def oZ (ok neg:Bool)(V:Nat)(e p:Int)(up:Bool):DR:=if ok then cj neg V e false p.toNat up else DR.no
theorem gz {g g' i:Nat}{a b c:Value}(h:w.cell? ⟨g',i,none⟩=some v)(hne:g'≠g):(put3 w g a b c).cell? ⟨g',i,none⟩=some v:=by
 have e:∀ (w:World) (i:Nat) (u:Value),(w.setCell ⟨g,i,none⟩ u).heap[g']?=w.heap[g']?:=fun w i u=>Below.heap_setCell w _ u g' (by simpa using hne)
 rw[World.cell?_of_block ((e _ _ _).trans ((e _ _ _).trans (e _ _ _)))];exact h
def yh (w w':World)(na:Bool)(A:OA)(n c:Nat)(ea:Int)(nb':Bool)(B:OA)(m d:Nat)(eb:Int):Prop :=
 (w'.cell? ⟨w.heap.size,0,none⟩=some (.bool na)/\w'.cell? ⟨w.heap.size,1,none⟩=some (.slice A n c)/\w'.cell? ⟨w.heap.size,2,none⟩=some (.int .i64 ea)) /\
  (w'.cell? ⟨w.heap.size+1,0,none⟩=some (.bool nb')/\w'.cell? ⟨w.heap.size+1,1,none⟩=some (.slice B m d)/\w'.cell? ⟨w.heap.size+1,2,none⟩=some (.int .i64 eb))
theorem F3.six {w1:World}{na nb':Bool}{B:OA}{m d:Nat}{ea eb:Int}(h:F3 w w1 na A n c ea nb' B m d eb):yh w w1 na A n c ea nb' B m d eb:=⟨h.ka.cell,h.kb.cell⟩
theorem yh.put {w1:World}{na nb':Bool}{B:OA}{m d:Nat}{ea eb:Int}(h:yh w w1 na A n c ea nb' B m d eb)(a b e:Value):yh w (put3 w1 (w.heap.size+1+1) a b e) na A n c ea nb' B m d eb :=
 ⟨⟨gz h.1.1 (by omega),gz h.1.2.1 (by omega),gz h.1.2.2 (by omega)⟩,⟨gz h.2.1 (by omega),gz h.2.2.1 (by omega),gz h.2.2.2 (by omega)⟩⟩
def EJ (V:Nat):Nat->Nat
 | 0=>0
 | k+1=>if (k+1)*(k+1)<=V then k+1 else EJ V k
def rt (V:Nat):Nat:=EJ V V
theorem iv (V z:Nat):nb (V*2^z)<=nb V+z:=by
 rcases Nat.eq_zero_or_pos V with h | h
 . subst h;rw[Nat.zero_mul,aX];omega
 . rw[ch h];omega
end Go.Proofs.YtmbmohibpkepdaaGreatDoor
