/-
 A region that draws its order, walked by hand: its operations by laws of their own.
 volvellelaw05: Fit, Bits.
 The rules of powers of e, for spans: the squares' difference holds 1; the power of a sum meets the product.
 The contracts that volvellelaw05.ExpoRules' law goes on with.
-/
import Derived.Deep.RegionHeld3
import Derived.Test.YtmbmohibpkepdaaGreatDoorPlEGDy2
import Derived.Test.YtmbmohibpkepdaaGreatDoorPlEGSe1
import Derived.Test.YtmbmohibpkepdaaGreatDoorPlEGEx12
namespace Go.Proofs.YtmbmohibpkepdaaGreatDoor
open Go.RowKit
theorem kc_range {T:TypeId} {w:World} {a:Nat} {l:List Value} (k:KC T w a l.toArray):w.rangeAt a 0 l:=fun j v hv=>by
 rw [Nat.zero_add]
 exact k.at_ j v (by simpa using hv)
theorem kc_there {T:TypeId} {w:World} {a:Nat} {cs:Array Value} (k:KC T w a cs):w.there a 0 cs.size:=fun j hj=>by
 rw [Nat.zero_add]
 exact ⟨by rw [k.at_ j _ (Array.getElem?_eq_getElem hj)];rfl,k.fr j⟩
theorem kc_there' {T:TypeId} {w:World} {a:Nat} {cs:Array Value} (k:KC T w a cs) (n:Nat) (h:cs.size=n):w.there a 0 n:=h ▸ kc_there k
theorem nes_new {w:World} {g:Nat}:∀ {ks:List (TypeId×Nat×Array Value)},KS w g ks→NeS w.heap.size ks
 | [],_=>trivial
 | (_,_,_) :: _,h=>⟨Nat.ne_of_lt h.1.1.2,nes_new h.2⟩
theorem st_store1 {T T':TypeId} {w0 v:World} {g:Nat} {p:Int} {bad:Bool} {ks:List (TypeId×Nat×Array Value)} {ns:List (Value×Nat)} {b:Nat} (L:St T w0 g p bad v ((T',b,zs) :: ks) ns) (h1:w0.heap.size≤b) (hne:NeS b ks) (x0 x1 x2 x3 x4 x5:Value) (hT:T'=31:=by rfl) :
 St T w0 g p bad (put6 v b x0 x1 x2 x3 x4 x5) ((31,b,#[x0,x1,x2,x3,x4,x5]) :: ks) ns:=by
 subst hT
 have L0:St T w0 g p bad v ks ns:=⟨L.hg,L.O,L.W,L.ks.2,L.ns⟩
 exact st_put6 L0 L.ks.1.1 h1 hne x0 x1 x2 x3 x4 x5
theorem st_swap {T:TypeId} {w0 v:World} {g:Nat} {p:Int} {bad:Bool} {k1 k2:TypeId×Nat×Array Value} {ks:List (TypeId×Nat×Array Value)} {ns:List (Value×Nat)} (h:St T w0 g p bad v (k1 :: k2 :: ks) ns):St T w0 g p bad v (k2 :: k1 :: ks) ns:=by
 obtain ⟨T1,b1,c1⟩:=k1
 obtain ⟨T2,b2,c2⟩:=k2
 exact ⟨h.hg,h.O,h.W,⟨h.ks.2.1,h.ks.1,h.ks.2.2⟩,h.ns⟩
theorem st_drop2 {T:TypeId} {w0 v:World} {g:Nat} {p:Int} {bad:Bool} {ks:List (TypeId×Nat×Array Value)} {n1 n2 n3 n4:Value×Nat} {ns:List (Value×Nat)} (h:St T w0 g p bad v ks (n1 :: n2 :: n3 :: n4 :: ns)):St T w0 g p bad v ks (n1 :: n2 :: ns):=by
 obtain ⟨v1,V1⟩:=n1
 obtain ⟨v2,V2⟩:=n2
 obtain ⟨v3,V3⟩:=n3
 obtain ⟨v4,V4⟩:=n4
 exact ⟨h.hg,h.O,h.W,h.ks,h.ns.1,h.ns.2.1,h.ns.2.2.2.2⟩
theorem st_k1 {T:TypeId} {w0 v:World} {g:Nat} {p:Int} {bad:Bool} {k:TypeId×Nat×Array Value} {ks:List (TypeId×Nat×Array Value)} {ns:List (Value×Nat)} (h:St T w0 g p bad v (k :: ks) ns):St T w0 g p bad v [k] ns:=by
 obtain ⟨T1,b1,c1⟩:=k
 exact ⟨h.hg,h.O,h.W,⟨h.ks.1,trivial⟩,h.ns⟩
theorem st_n2 {T:TypeId} {w0 v:World} {g:Nat} {p:Int} {bad:Bool} {ks:List (TypeId×Nat×Array Value)} {n1 n2:Value×Nat} {ns:List (Value×Nat)} (h:St T w0 g p bad v ks (n1 :: n2 :: ns)):St T w0 g p bad v ks [n1,n2]:=by
 obtain ⟨v1,V1⟩:=n1
 obtain ⟨v2,V2⟩:=n2
 exact ⟨h.hg,h.O,h.W,h.ks,h.ns.1,h.ns.2.1,trivial⟩
def StW (T:TypeId) (w0:World) (g:Nat) (p:Int) (bad:Bool) (ks:List (TypeId×Nat×Array Value)) (ns:List (Value×Nat)) (w:World):Prop:=St T w0 g p bad w ks ns
theorem StW.out {T:TypeId} {w0 w:World} {g:Nat} {p:Int} {bad:Bool} {ks:List (TypeId×Nat×Array Value)} {ns:List (Value×Nat)} (h:StW T w0 g p bad ks ns w):St T w0 g p bad w ks ns:=h
theorem st_store1w {T T':TypeId} {w0 v:World} {g:Nat} {p:Int} {bad:Bool} {ks:List (TypeId×Nat×Array Value)} {ns:List (Value×Nat)} {b:Nat} (L:St T w0 g p bad v ((T',b,zs) :: ks) ns) (h1:w0.heap.size≤b) (hne:NeS b ks) (x0 x1 x2 x3 x4 x5:Value) (hT:T'=31:=by rfl) :
 StW T w0 g p bad ((31,b,#[x0,x1,x2,x3,x4,x5]) :: ks) ns (put6 v b x0 x1 x2 x3 x4 x5):=st_store1 L h1 hne x0 x1 x2 x3 x4 x5 hT
def StA (T:TypeId) (w0:World) (g:Nat) (p:Int) (bad:Bool) (b2:Nat) (ks:List (TypeId×Nat×Array Value)) (ns:List (Value×Nat)) (w:World):Prop:=KC 31 w b2 zs∧St T w0 g p bad w ks ns
theorem st_storeA {T:TypeId} {w0 v:World} {g:Nat} {p:Int} {bad:Bool} {ks:List (TypeId×Nat×Array Value)} {ns:List (Value×Nat)} (L:St T w0 g p bad v ks ns) {b1 b2:Nat} (k1:KC 31 v b1 zs) (k2:KC 31 v b2 zs) (h1:w0.heap.size≤b1) (hne:b1≠b2) (x0 x1 x2 x3 x4 x5:Value) :
 StA T w0 g p bad b2 [(31,b1,#[x0,x1,x2,x3,x4,x5])] ns (put6 v b1 x0 x1 x2 x3 x4 x5):=by
 have L0:St T w0 g p bad v [] ns:=⟨L.hg,L.O,L.W,trivial,L.ns⟩
 exact ⟨k2.only (only_put6 v b1 x0 x1 x2 x3 x4 x5) (fun e=>hne e.symm),st_put6 L0 k1 h1 trivial x0 x1 x2 x3 x4 x5⟩
theorem st_storeB {T T':TypeId} {w0 v:World} {g:Nat} {p:Int} {bad:Bool} {ns:List (Value×Nat)} {b1 b2:Nat} {X:Array Value} (h:StA T w0 g p bad b2 [(T',b1,X)] ns v) (h2:w0.heap.size≤b2) (hne:b1≠b2) (y0 y1 y2 y3 y4 y5:Value) :
 StW T w0 g p bad [(31,b2,#[y0,y1,y2,y3,y4,y5]),(T',b1,X)] ns (put6 v b2 y0 y1 y2 y3 y4 y5):=st_put6 h.2 h.1 h2 ⟨hne,trivial⟩ y0 y1 y2 y3 y4 y5
section
variable {ops:Array Oper} {S:World→Prop} {o:Oper} {a:Act} {w:World} {K:Act→World→Prop} {Q:Exit→Act→World→Prop}
theorem hw_start {P:Program} {id:Nat} (n:Nat) (l:Array Bool) (hm:P.follows .mixedOrders=true) (hn:ops.size=n) (hl:Array.replicate n false=l) (hS:S w.drew) (h:wpAnyH P .any ops Q S n l a w.drew):(Code.region id ops true).wp P Q a w:=by
 subst hn hl
 exact wp_region_held_drew hm hS fun _=>h
theorem capture {P:Program} {md:Region.Mode} {n:Nat} {l:Array Bool} (h:∀ G:Nat→Array Bool→Act→World→Prop,G=wpAnyH P md ops Q S→G n l a w):wpAnyH P md ops Q S n l a w:=h _ rfl
theorem frame6 {R:Act→Prop} (s1 s2 s3 s4 s5 s6:Nat) (h0:(((((a.put (some s1) undef).put (some s2) undef).put (some s3) undef).put (some s4) undef).put (some s5) undef).put (some s6) undef=a)
 (h:∀ A:Value→Value→Value→Value→Value→Value→Act,(∀ o1 o2 o3 o4 o5 o6,A o1 o2 o3 o4 o5 o6=(((((a.put (some s1) o1).put (some s2) o2).put (some s3) o3).put (some s4) o4).put (some s5) o5).put (some s6) o6)→R (A undef undef undef undef undef undef)):R a:=by
 have:=h _ (fun _ _ _ _ _ _=>rfl)
 rw [h0] at this
 exact this
theorem yields_pure {P:Program} {v:Value} (hw:Region.wanted o (yielded ops a.tmps)=true) (h:∀ w,(execOp a.eval o).run P w=.ok (.value v) w):YieldsIf P ops S o v a:=.inl ⟨hw,fun w _=>h w⟩
theorem yields_dyad {T:TypeId} (hw:Region.wanted o (yielded ops a.tmps)=true) (x:Operand) (ho:o.op=.load 24 x) (b:Nat) (hx:a.eval x=.pointer (some ⟨b,0,none⟩)) {c0 c1 c2:Value} (hS:∀ w,S w→KC T w b #[c0,c1,c2]) :
 YieldsIf Tryz.prog ops S o (.agg #[c0,c1,c2]) a:=by
 have h:(Tryz.prog.underlying 24).map TypeDesc.isRow=some true:=by kernel_rfl
 obtain ⟨d,h1,h2⟩:=Option.map_eq_some_iff.1 h
 exact yieldsIf_load_mid hw _ x ho b 0 hx [c0,c1,c2] d (fun w h=>kc_range (hS w h)) h1 h2 (by kernel_rfl)
theorem yields_span {T:TypeId} (hw:Region.wanted o (yielded ops a.tmps)=true) (x:Operand) (ho:o.op=.load 31 x) (b:Nat) (hx:a.eval x=.pointer (some ⟨b,0,none⟩)) {c0 c1 c2 c3 c4 c5:Value} (hS:∀ w,S w→KC T w b #[c0,c1,c2,c3,c4,c5]) :
 YieldsIf Tryz.prog ops S o (.agg #[c0,c1,c2,c3,c4,c5]) a:=by
 have h:(Tryz.prog.underlying 31).map TypeDesc.isRow=some true:=by kernel_rfl
 obtain ⟨d,h1,h2⟩:=Option.map_eq_some_iff.1 h
 exact yieldsIf_load_mid hw _ x ho b 0 hx [c0,c1,c2,c3,c4,c5] d (fun w h=>kc_range (hS w h)) h1 h2 (by kernel_rfl)
theorem yields_bool (hw:Region.wanted o (yielded ops a.tmps)=true) (x:Operand) (ho:o.op=.load 4 x) {ad:Addr} (hx:a.eval x=.pointer (some ad)) {b:Bool} (hS:∀ w,S w→w.cell? ad=some (.bool b)):YieldsIf Tryz.prog ops S o (.bool b) a :=
 .inl ⟨hw,fun w h=>by
  have hc:=hS w h
  unfold execOp
  simp only [ho,hx]
  go_simp⟩
theorem op_alloc6 (ho:o.op=.alloc 31) (h:K (a.put o.dst (.pointer (some ⟨w.heap.size,0,none⟩))) (w.alloc (.cells zs 31))):Oper.wp Tryz.prog o a w K Q:=by
 have hr:(execOp a.eval o).run Tryz.prog w=.ok (.value (.pointer (some ⟨w.heap.size,0,none⟩))) (w.alloc (.cells zs 31)):=by
  unfold execOp
  rw [ho]
  kernel_rfl
 unfold Oper.wp
 rw [hr]
 exact h
theorem op_store6 {T:TypeId} (x y:Operand) (ho:o.op=.store 31 x y) (b:Nat) (hx:a.eval x=.pointer (some ⟨b,0,none⟩)) {n1 n2:Bool} {A B:Option Addr} {n c m d:Nat} {e f:Int} (hy:a.eval y=spv n1 A n c e n2 B m d f) {q0 q1 q2 q3 q4 q5:Value}
 (k:KC T w b #[q0,q1,q2,q3,q4,q5]) (h:K (a.put o.dst undef) (put6 w b (.bool n1) (.slice A n c) (.int .i64 e) (.bool n2) (.slice B m d) (.int .i64 f))):Oper.wp Tryz.prog o a w K Q :=
 wp_store_mid _ x y ho b 0 #[.bool n1,.slice A n c,.int .i64 e,.bool n2,.slice B m d,.int .i64 f] hx hy (kc_there' k 6 rfl) (by kernel_rfl) (by simp [Value.oneCell']) h
theorem op_alloc6_st {T:TypeId} {w0:World} {g:Nat} {p:Int} {bad:Bool} {ks:List (TypeId×Nat×Array Value)} {ns:List (Value×Nat)} (L:St T w0 g p bad w ks ns) (ho:o.op=.alloc 31)
 (h:∀ b w',St T w0 g p bad w' ((31,b,zs) :: ks) ns→w0.heap.size≤b→NeS b ks→K (a.put o.dst (.pointer (some ⟨b,0,none⟩))) w'):Oper.wp Tryz.prog o a w K Q :=
 op_alloc6 ho (h _ _ (L.alloc _ _) L.size (nes_new L.ks))
theorem op_store6_any {T:TypeId} (x y:Operand) (ho:o.op=.store 31 x y) (b:Nat) (hx:a.eval x=.pointer (some ⟨b,0,none⟩)) {n1 n2:Bool} {A B:Option Addr} {n c m d:Nat} {e f:Int} (hy:a.eval y=spv n1 A n c e n2 B m d f) {q0 q1 q2 q3 q4 q5:Value}
 (k:KC T w b #[q0,q1,q2,q3,q4,q5]) {F:World→Prop} (hF:F (put6 w b (.bool n1) (.slice A n c) (.int .i64 e) (.bool n2) (.slice B m d) (.int .i64 f))) (h:∀ w',F w'→K (a.put o.dst undef) w'):Oper.wp Tryz.prog o a w K Q :=
 op_store6 x y ho b hx hy k (h _ hF)
theorem op_call {P:Program} {f:FuncId} {vals:Array Value} {post:Ending→World→Prop} (hc:Calls P f vals w post) (hr:(execOp a.eval o).run P w=.ok (.enter f vals) w)
 (hK:∀ e w',post e w'→∃ v,e=.returned v∧K (a.put o.dst v) w'):Oper.wp P o a w K Q:=by
 unfold Oper.wp
 rw [hr]
 refine Calls.mono hc fun e w' he=>?_
 obtain ⟨v,rfl,h⟩:=hK e w' he
 exact h
end
end Go.Proofs.YtmbmohibpkepdaaGreatDoor
namespace Go.Proofs.YtmbmohibpkepdaaGreatDoor
open Go.RowKit
def fit5 (neg:Bool) (n:Nat) (x:Nat→Nat) (e:Int):Bool:=decide (n≤10) && plainB neg n x e && decide (-3000≤e)
theorem fit5_any (neg:Bool) (A:Option Addr) (n c:Nat) (x:Nat→Nat) (e:Int) (w:World) (ha:Sl w A n c x) :
 Calls Tryz.prog 10 #[dyv neg A n c e] w (BoolPost w (fit5 neg n x e)):=by
 have b1:=alloc_bel w (.cells #[.bool neg,.slice A n c,.int .i64 e] 24)
 have k:=KC.made 24 w #[.bool neg,.slice A n c,.int .i64 e]
 have h1:=ha.below b1
 by_cases hn:n≤10
 · have hd:decide ((n:Int)≤10)=true:=decide_eq_true (by omega)
   have CP:=Lib.hid (rplain_any neg A n c x e _ h1 (by omega))
   have hF:Hid (fit5 neg n x e=(plainB neg n x e && decide (-3000≤e))):=Lib.hid (by unfold fit5;rw [decide_eq_true hn];simp)
   rw [hF.out]
   generalize plainB neg n x e=q at *
   clear ha h1 hF
   go_enter Tryz.func10,Tryz.ntmps10
   go_wp2_with fail
   refine CP.out.mono ?_
   generalize w.alloc (.cells #[.bool neg,.slice A n c,.int .i64 e] 24)=w1 at *
   rintro e' w2 ⟨rfl,b2⟩
   have b3:=below_step b1 b2
   have k2:=k.adv b2
   have c2:=k2.at_ 2 _ rfl
   have kl:=k2.2
   clear CP k
   cases q
   · go_wp2_with fail
     go_ret
     exact ⟨by simp,b3⟩
   · go_wp2_with fail
     go_ret
     exact ⟨by simp,b3⟩
 · have hd:decide ((n:Int)≤10)=false:=decide_eq_false (by omega)
   have hF:Hid (fit5 neg n x e=false):=Lib.hid (by unfold fit5;rw [decide_eq_false hn];simp)
   rw [hF.out]
   clear ha h1 hF k
   go_enter Tryz.func10,Tryz.ntmps10
   go_wp2_with fail
   go_ret
   exact ⟨by simp,b1⟩
def bits5 (p:Int):Bool:=decide (16≤p) && decide (p≤400)
theorem bits5_any (p:Int) (w:World):Calls Tryz.prog 11 #[.int .i64 p] w (BoolPost w (bits5 p)):=by
 have hF:Hid (bits5 p=(decide (16≤p) && decide (p≤400))):=Lib.hid rfl
 rw [hF.out]
 clear hF
 by_cases h1:16≤p
 · have d1:decide (16≤p)=true:=decide_eq_true h1
   have d2:decide (p ≥ 16)=true:=decide_eq_true h1
   go_enter Tryz.func11,Tryz.ntmps11
   go_wp2_with fail
   go_ret
   exact ⟨by simp [h1],Below.refl _ _⟩
 · have d1:decide (16≤p)=false:=decide_eq_false h1
   have d2:decide (p ≥ 16)=false:=decide_eq_false h1
   go_enter Tryz.func11,Tryz.ntmps11
   go_wp2_with fail
   go_ret
   exact ⟨by simp,Below.refl _ _⟩
end Go.Proofs.YtmbmohibpkepdaaGreatDoor
namespace Go.Proofs.YtmbmohibpkepdaaGreatDoor
open Go.RowKit
theorem mul_hl {p B:Int} {r s:SRes} {f g:Nat→Rat} (hp1:1≤p) (hp2:p≤8192) (h:Sq B r) (k:Sq B s) (hB:2*B≤262000) (hB0:0≤B) (hf:Hl (rv r.lo) (rv r.hi) f) (hg:Hl (rv s.lo) (rv s.hi) g) :
 Sq (2*B+1) (mulC p false r.lo r.hi s.lo s.hi)∧Hl (rv (mulC p false r.lo r.hi s.lo s.hi).lo) (rv (mulC p false r.lo r.hi s.lo s.hi).hi) (fun n=>f n*g n):=by
 obtain ⟨q,_,_,L,H,M,c,d⟩:=mul_q hp1 hp2 h k hB hB0
 exact ⟨q,(hf.mul hg M.l1 M.l2 M.l3 M.l4 M.u1 M.u2 M.u3 M.u4).mono c.le d.le⟩
theorem meet_hl {B C:Int} {r s:SRes} {f g:Nat→Rat} (h:Sq B r) (k:Sq C s) (hf:Hl (rv r.lo) (rv r.hi) f) (hg:Hl (rv s.lo) (rv s.hi) g) (z:Nul (fun n=>f n-g n)):cmpI2 r.lo s.hi≤0∧cmpI2 s.lo r.hi≤0 :=
 ⟨rv_cmp5 h.l.p k.h.p (hf.meet hg z),rv_cmp5 k.l.p h.h.p (hg.meet hf (z.neg.eq fun n=>by grind))⟩
theorem rule_one {p:Int} {x y o:SRes} {q:Rat} (hp1:1≤p) (hp2:p≤8192) (hx:Sq 73000 x) (hy:Sq 73000 y) (fx:Hl (rv x.lo) (rv x.hi) (chQ q)) (fy:Hl (rv y.lo) (rv y.hi) (shQ q)) (ho:Sq 64 o) (fo:Hl (rv o.lo) (rv o.hi) (fun _=>1)) :
 Sq 146001 (mulC p false x.lo x.hi x.lo x.hi)∧Sq 146001 (mulC p false y.lo y.hi y.lo y.hi) ∧
 Sq 146003 (subS p false (mulC p false x.lo x.hi x.lo x.hi).lo (mulC p false x.lo x.hi x.lo x.hi).hi (mulC p false y.lo y.hi y.lo y.hi).lo (mulC p false y.lo y.hi y.lo y.hi).hi) ∧
 cmpI2 (subS p false (mulC p false x.lo x.hi x.lo x.hi).lo (mulC p false x.lo x.hi x.lo x.hi).hi (mulC p false y.lo y.hi y.lo y.hi).lo (mulC p false y.lo y.hi y.lo y.hi).hi).lo o.hi≤0 ∧
 cmpI2 o.lo (subS p false (mulC p false x.lo x.hi x.lo x.hi).lo (mulC p false x.lo x.hi x.lo x.hi).hi (mulC p false y.lo y.hi y.lo y.hi).lo (mulC p false y.lo y.hi y.lo y.hi).hi).hi≤0:=by
 obtain ⟨m1,f1⟩:=mul_hl hp1 hp2 hx hx (by omega) (by omega) fx fx
 obtain ⟨m2,f2⟩:=mul_hl hp1 hp2 hy hy (by omega) (by omega) fy fy
 obtain ⟨S,c,d⟩:=sub_q hp1 hp2 m1 m2 (by omega) (by omega)
 have f3:=(f1.sub f2).mono c.le d.le
 obtain ⟨g1,g2⟩:=meet_hl S ho f3 fo ((ch_sh q).eq fun n=>by grind)
 exact ⟨m1.more (by omega),m2.more (by omega),S.more (by omega),g1,g2⟩
theorem rule_sum {p:Int} {u v s:SRes} {a b:Rat} (hp1:1≤p) (hp2:p≤8192) (hu:Sq 73000 u) (hv:Sq 73000 v) (fu:Hl (rv u.lo) (rv u.hi) (exQ a)) (fv:Hl (rv v.lo) (rv v.hi) (exQ b)) (hs:Sq 171080 s) (fs:Hl (rv s.lo) (rv s.hi) (exQ (a+b))) :
 Sq 146001 (mulC p false u.lo u.hi v.lo v.hi)∧cmpI2 s.lo (mulC p false u.lo u.hi v.lo v.hi).hi≤0∧cmpI2 (mulC p false u.lo u.hi v.lo v.hi).lo s.hi≤0:=by
 obtain ⟨m1,f1⟩:=mul_hl hp1 hp2 hu hv (by omega) (by omega) fu fv
 obtain ⟨g1,g2⟩:=meet_hl m1 hs f1 fs (ex_add a b)
 exact ⟨m1.more (by omega),g2,g1⟩
def most5:DR:=⟨true,false,625,4⟩
theorem most5_q:Tq 64 most5∧rv most5=10000:=by
 have hb:nb 625=10:=nb_of (B:=9) (by decide) (by decide)
 refine ⟨⟨rfl,?_,by show nb 625≤9000;omega,by show (-64:Int)≤4;omega,by show (4:Int)+(nb 625:Int)≤64;omega⟩,?_⟩
 · show plainV false 625 4=true
   unfold plainV fitE
   rw [if_neg (by decide),hb,MB_eq]
   decide
 · show ((625:Nat):Rat)*tp 4=10000
   have e:tp 4=((2^4:Nat):Rat):=tp_nat 4
   rw [e,← Rat.natCast_mul]
   rfl
structure In5 (x:DR):Prop where
 ok:x.ok=true
 pl:plainV x.neg x.m x.e=true
 b:nb x.m≤640
 e1:-3000≤x.e
 s:sz x≤10000
theorem In5.top {x:DR} (h:In5 x):x.e+(nb x.m:Int)≤14:=by
 rcases Nat.eq_zero_or_pos x.m with h0 | h0
 · rw [h0,nb_zero,((plainR_of h.pl).zero h0).1];omega
 · have e:((2^14:Nat):Rat)=16384:=rfl
   have e1:((2^0:Nat):Rat)=1:=rfl
   have h4:=Rat.mul_le_mul_of_nonneg_right (natq_le (nb_ge h0)) (Rat.le_of_lt (tw_pos x.e))
   rw [tw_natmul] at h4
   have hs:(x.m:Rat)*tw x.e≤10000:=h.s
   have h5:tw (((nb x.m-1:Nat):Int)+x.e) < tw ((14:Nat):Int):=by
    rw [tw_nat,e]
    grind
   have:=tw_lt h5
   have:=nb_pos h0
   omega
theorem In5.tq {x:DR} (h:In5 x):Tq 4000 x:=⟨h.ok,h.pl,by have:=h.b;omega,by have:=h.e1;omega,by have:=h.top;omega⟩
theorem In5.nrm {x:DR} (h:In5 x):Nrm x:=⟨by have:=h.b;omega,by have:=h.e1;omega⟩
theorem In5.lone {x:DR} (h:In5 x):rightI x x=true:=right_tq h.tq h.tq Rat.le_refl
theorem abs_bound {x:DR} {c:Rat} (h:sz x≤c):-c≤rv x∧rv x≤c:=by
 rw [abs_sz] at h
 split at h <;> constructor <;> grind
theorem reach_of {B:Int} {x:DR} (h:Tq B x) (hB:64≤B) (hs:sz x≤65536):reachI x x=true:=by
 obtain ⟨m1,m2,m3,m4⟩:=most_tq
 obtain ⟨a,b⟩:=abs_bound hs
 unfold reachI
 rw [right_tq (m2.more hB) h (by rw [m4];exact a),right_tq h h Rat.le_refl,right_tq h (m1.more hB) (by rw [m3];exact b)]
 rfl
theorem sum5 {a b:DR} (ha:In5 a) (hb:In5 b):(wid2 a b).ok=true∧plainV (wid2 a b).neg (wid2 a b).m (wid2 a b).e=true∧Tq 8000 (wid2 a b)∧Nrm (wid2 a b)∧sz (wid2 a b)≤20000∧rv (wid2 a b)=rv a+rv b:=by
 have a1:=ha.e1
 have a2:=ha.top
 have b1:=hb.e1
 have b2:=hb.top
 have hl:-3000≤lo2 a b∧lo2 a b≤14:=by
  unfold lo2
  split <;> split <;> omega
 have hh:hi2 a b≤14:=by
  unfold hi2
  split <;> split <;> omega
 obtain ⟨neg,V,hE,hV⟩:=wid2_val (r:=a) (s:=b) (by omega)
 obtain ⟨c1,c2⟩:=abs_bound ha.s
 obtain ⟨d1,d2⟩:=abs_bound hb.s
 have hVs:(V:Rat)*tp (lo2 a b)≤20000:=by
  cases neg
  · rw [qv_false] at hV;rw [hV];grind
  · rw [qv_true] at hV;grind
 have hnb:(nb V:Int)+lo2 a b≤15:=by
  rcases Nat.eq_zero_or_pos V with h0 | h0
  · rw [h0,nb_zero];omega
  · have e:((2^15:Nat):Rat)=32768:=rfl
    have h4:=Rat.mul_le_mul_of_nonneg_right (natq_le (nb_ge h0)) (Rat.le_of_lt (tw_pos (lo2 a b)))
    rw [tw_natmul] at h4
    have hs:(V:Rat)*tw (lo2 a b)≤20000:=hVs
    have h5:tw (((nb V-1:Nat):Int)+lo2 a b) < tw ((15:Nat):Int):=by
     rw [tw_nat,e]
     grind
    have:=tw_lt h5
    have:=nb_pos h0
    omega
 have Q:=mk_q (neg:=neg) (V:=V) (e:=lo2 a b) (B:=8000) (by omega) (by omega) (by omega) (by omega) (by omega)
 have hv:=Q.2.1
 rw [hV] at hv
 rw [hE]
 refine ⟨Q.1.ok,Q.1.pl,Q.1,⟨by have:=Q.2.2;omega,by have:=Q.1.e1;omega⟩,?_,hv⟩
 rw [abs_sz,hv]
 split <;> grind
end Go.Proofs.YtmbmohibpkepdaaGreatDoor
namespace Go.Proofs.YtmbmohibpkepdaaGreatDoor
open Go.RowKit
theorem in5_of {neg:Bool} {n:Nat} {x:Nat→Nat} {e:Int} (hl:vs B64 x n < B64^n) (h1:plainB false n x e=true) (h2:cmpD true false false (vs B64 x n) 625 e 4≤0) (h3:fit5 neg n x e=true):n≤10∧plainB neg n x e=true∧In5 ⟨true,neg,vs B64 x n,e⟩:=by
 unfold fit5 at h3
 simp only [Bool.and_eq_true,decide_eq_true_eq] at h3
 obtain ⟨⟨hn,hp⟩,he⟩:=h3
 have F:=plain_facts hp
 have pl:plainV neg (vs B64 x n) e=true:=by rw [← plain_V F.cn];exact hp
 have pl0:plainV false (vs B64 x n) e=true:=by rw [← plain_V F.cn];exact h1
 have key:∀ k,64*n≤k→nb (vs B64 x n)≤k:=fun k hk=>(nb_le_iff _ _).2 (Nat.lt_of_lt_of_le hl (by rw [B64_pow,← Nat.pow_mul];exact Nat.pow_le_pow_right (by omega) (by omega)))
 have hb:nb (vs B64 x n)≤640:=key 640 (by omega)
 have T:Tq 262800 ⟨true,false,vs B64 x n,e⟩:=⟨rfl,pl0,by show nb (vs B64 x n)≤9000;omega,by have:=F.e1;show (-262800:Int)≤e;omega,by
  have:=F.e2
  show e+(nb (vs B64 x n):Int)≤262800
  omega⟩
 have hr:=right_rv T (most5_q.1.more (by omega)) (by
  unfold rightI rightB
  unfold cmpD at h2
  rw [if_pos rfl] at h2
  show decide (ordD false false (vs B64 x n) 625 e 4≤0)=true
  exact decide_eq_true h2)
 rw [most5_q.2] at hr
 exact ⟨hn,hp,rfl,pl,hb,he,hr⟩
set_option maxRecDepth 8000 in
set_option maxHeartbeats 4000000 in
theorem rules5 (na nb1:Bool) (A B:Option Addr) (n c m d:Nat) (x y:Nat→Nat) (ea eb p:Int) (w:World) (ha:Sl w A n c x) (hb:Sl w B m d y) (hp:bits5 p=true) (ia:n≤10∧plainB na n x ea=true∧In5 ⟨true,na,vs B64 x n,ea⟩) (ib:m≤10∧plainB nb1 m y eb=true∧In5 ⟨true,nb1,vs B64 y m,eb⟩) :
 ∃ (a b ab:DR) (XC YC M1 M2 ON EA EB MU ES OO:SRes→Prop),
  (∀ g w',Wk 38 w' g p false→Below w.heap.size w w'→Calls Tryz.prog 13 #[.pointer (some ⟨g,0,none⟩),dyv na A n c ea] w' (SPost 38 w' g p ⟨false,a,a⟩)) ∧
  (∀ g w',Wk 38 w' g p false→Below w.heap.size w w'→Calls Tryz.prog 13 #[.pointer (some ⟨g,0,none⟩),dyv nb1 B m d eb] w' (SPost 38 w' g p ⟨false,b,b⟩)) ∧
  (∀ w',Tab w'→Below w.heap.size w w'→Calls Tryz.prog 30 #[.slice (some ⟨w'.heap.size,0,none⟩) 2 2] (w'.alloc (.cells #[.bool na,.slice A n c,.int .i64 ea,.bool nb1,.slice B m d,.int .i64 eb] 24)) (DP (w'.alloc (.cells #[.bool na,.slice A n c,.int .i64 ea,.bool nb1,.slice B m d,.int .i64 eb] 24)) ab))∧ab.ok=true ∧
  (∀ g w' A' n' c',Wk 38 w' g p false→Num w' (.slice A' n' c') ab.m→Calls Tryz.prog 13 #[.pointer (some ⟨g,0,none⟩),dyv ab.neg A' n' c' ab.e] w' (SPost 38 w' g p ⟨false,ab,ab⟩)) ∧
  (∀ g w' A n c B m d,Wk 38 w' g p false→Tab w'→Num w' (.slice A n c) a.m→Num w' (.slice B m d) a.m→Calls Tryz.prog 22 #[.pointer (some ⟨g,0,none⟩),spv a.neg A n c a.e a.neg B m d a.e] w' (fun e' w''=>∃ r,XC r∧r.bad=false∧SPost 38 w' g p r e' w'')) ∧
  (∀ g w' A n c B m d,Wk 38 w' g p false→Tab w'→Num w' (.slice A n c) a.m→Num w' (.slice B m d) a.m→Calls Tryz.prog 20 #[.pointer (some ⟨g,0,none⟩),spv a.neg A n c a.e a.neg B m d a.e] w' (fun e' w''=>∃ r,YC r∧r.bad=false∧SPost 38 w' g p r e' w'')) ∧
  (∀ r1 g w' A1 n1 c1 B1 m1 d1 A2 n2 c2 B2 m2 d2,XC r1→Wk 38 w' g p false→Tab w'→Num w' (.slice A1 n1 c1) r1.lo.m→Num w' (.slice B1 m1 d1) r1.hi.m→Num w' (.slice A2 n2 c2) r1.lo.m→Num w' (.slice B2 m2 d2) r1.hi.m→Calls Tryz.prog 29 #[.pointer (some ⟨g,0,none⟩),spv r1.lo.neg A1 n1 c1 r1.lo.e r1.hi.neg B1 m1 d1 r1.hi.e,spv r1.lo.neg A2 n2 c2 r1.lo.e r1.hi.neg B2 m2 d2 r1.hi.e] w' (fun e' w''=>∃ r,M1 r∧r.bad=false∧SPost 38 w' g p r e' w'')) ∧
  (∀ r1 g w' A1 n1 c1 B1 m1 d1 A2 n2 c2 B2 m2 d2,YC r1→Wk 38 w' g p false→Tab w'→Num w' (.slice A1 n1 c1) r1.lo.m→Num w' (.slice B1 m1 d1) r1.hi.m→Num w' (.slice A2 n2 c2) r1.lo.m→Num w' (.slice B2 m2 d2) r1.hi.m→Calls Tryz.prog 29 #[.pointer (some ⟨g,0,none⟩),spv r1.lo.neg A1 n1 c1 r1.lo.e r1.hi.neg B1 m1 d1 r1.hi.e,spv r1.lo.neg A2 n2 c2 r1.lo.e r1.hi.neg B2 m2 d2 r1.hi.e] w' (fun e' w''=>∃ r,M2 r∧r.bad=false∧SPost 38 w' g p r e' w'')) ∧
  (∀ r1 r2 g w' A1 n1 c1 B1 m1 d1 A2 n2 c2 B2 m2 d2,M1 r1→M2 r2→Wk 38 w' g p false→Tab w'→Num w' (.slice A1 n1 c1) r1.lo.m→Num w' (.slice B1 m1 d1) r1.hi.m→Num w' (.slice A2 n2 c2) r2.lo.m→Num w' (.slice B2 m2 d2) r2.hi.m→Calls Tryz.prog 28 #[.pointer (some ⟨g,0,none⟩),spv r1.lo.neg A1 n1 c1 r1.lo.e r1.hi.neg B1 m1 d1 r1.hi.e,spv r2.lo.neg A2 n2 c2 r2.lo.e r2.hi.neg B2 m2 d2 r2.hi.e] w' (fun e' w''=>∃ r,ON r∧r.bad=false∧SPost 38 w' g p r e' w'')) ∧
  (∀ g w',Wk 38 w' g p false→Tab w'→Calls Tryz.prog 31 #[.pointer (some ⟨g,0,none⟩),.int .i64 1] w' (fun e' w''=>∃ r,OO r∧r.bad=false∧SPost 38 w' g p r e' w'')) ∧
  (∀ r1 r2 w' A1 n1 c1 B1 m1 d1 A2 n2 c2 B2 m2 d2,ON r1→OO r2→Num w' (.slice A1 n1 c1) r1.lo.m→Num w' (.slice B1 m1 d1) r1.hi.m→Num w' (.slice A2 n2 c2) r2.lo.m→Num w' (.slice B2 m2 d2) r2.hi.m→Calls Tryz.prog 26 #[spv r1.lo.neg A1 n1 c1 r1.lo.e r1.hi.neg B1 m1 d1 r1.hi.e,spv r2.lo.neg A2 n2 c2 r2.lo.e r2.hi.neg B2 m2 d2 r2.hi.e] w' (TruePost w')) ∧
  (∀ g w' A n c B m d,Wk 38 w' g p false→Tab w'→Num w' (.slice A n c) ab.m→Num w' (.slice B m d) ab.m→Calls Tryz.prog 15 #[.pointer (some ⟨g,0,none⟩),spv ab.neg A n c ab.e ab.neg B m d ab.e] w' (fun e' w''=>∃ r,ES r∧r.bad=false∧SPost 38 w' g p r e' w'')) ∧
  (∀ g w' A n c B m d,Wk 38 w' g p false→Tab w'→Num w' (.slice A n c) a.m→Num w' (.slice B m d) a.m→Calls Tryz.prog 15 #[.pointer (some ⟨g,0,none⟩),spv a.neg A n c a.e a.neg B m d a.e] w' (fun e' w''=>∃ r,EA r∧r.bad=false∧SPost 38 w' g p r e' w'')) ∧
  (∀ g w' A n c B m d,Wk 38 w' g p false→Tab w'→Num w' (.slice A n c) b.m→Num w' (.slice B m d) b.m→Calls Tryz.prog 15 #[.pointer (some ⟨g,0,none⟩),spv b.neg A n c b.e b.neg B m d b.e] w' (fun e' w''=>∃ r,EB r∧r.bad=false∧SPost 38 w' g p r e' w'')) ∧
  (∀ r1 r2 g w' A1 n1 c1 B1 m1 d1 A2 n2 c2 B2 m2 d2,EA r1→EB r2→Wk 38 w' g p false→Tab w'→Num w' (.slice A1 n1 c1) r1.lo.m→Num w' (.slice B1 m1 d1) r1.hi.m→Num w' (.slice A2 n2 c2) r2.lo.m→Num w' (.slice B2 m2 d2) r2.hi.m→Calls Tryz.prog 29 #[.pointer (some ⟨g,0,none⟩),spv r1.lo.neg A1 n1 c1 r1.lo.e r1.hi.neg B1 m1 d1 r1.hi.e,spv r2.lo.neg A2 n2 c2 r2.lo.e r2.hi.neg B2 m2 d2 r2.hi.e] w' (fun e' w''=>∃ r,MU r∧r.bad=false∧SPost 38 w' g p r e' w'')) ∧
  (∀ r1 r2 w' A1 n1 c1 B1 m1 d1 A2 n2 c2 B2 m2 d2,ES r1→MU r2→Num w' (.slice A1 n1 c1) r1.lo.m→Num w' (.slice B1 m1 d1) r1.hi.m→Num w' (.slice A2 n2 c2) r2.lo.m→Num w' (.slice B2 m2 d2) r2.hi.m→Calls Tryz.prog 26 #[spv r1.lo.neg A1 n1 c1 r1.lo.e r1.hi.neg B1 m1 d1 r1.hi.e,spv r2.lo.neg A2 n2 c2 r2.lo.e r2.hi.neg B2 m2 d2 r2.hi.e] w' (TruePost w')):=by
 unfold bits5 at hp
 simp only [Bool.and_eq_true,decide_eq_true_eq] at hp
 obtain ⟨P,hP⟩:∃ P:Nat,p=(P:Int):=⟨p.toNat,by omega⟩
 subst hP
 obtain ⟨na10,npl,ia⟩:=ia
 obtain ⟨nb10,npl',ib⟩:=ib
 obtain ⟨a,ea'⟩:∃ a:DR,a=⟨true,na,vs B64 x n,ea⟩:=⟨_,rfl⟩
 obtain ⟨b,eb'⟩:∃ b:DR,b=⟨true,nb1,vs B64 y m,eb⟩:=⟨_,rfl⟩
 have Da:∀ w',Below w.heap.size w w'→DIn w' A n c a:=fun w' h=>⟨x,ha.below h,by omega,by rw [ea'],by rw [ea'];exact npl.symm⟩
 have Db:∀ w',Below w.heap.size w w'→DIn w' B m d b:=fun w' h=>⟨y,hb.below h,by omega,by rw [eb'],by rw [eb'];exact npl'.symm⟩
 have a1:a.neg=na:=by rw [ea']
 have a2:a.e=ea:=by rw [ea']
 have b1:b.neg=nb1:=by rw [eb']
 have b2:b.e=eb:=by rw [eb']
 rw [← ea'] at ia
 rw [← eb'] at ib
 clear ea' eb' npl npl'
 subst a1 a2 b1 b2
 obtain ⟨s1,s2,s3,s4,s5,s6⟩:=sum5 ia ib
 obtain ⟨o1,i1,i2,i3,-⟩:=num_q (p:=(P:Int)) (n:=1) (by omega) (by omega) (by rw [nb1];omega)
 have q1:=(pt_q (p:=(P:Int)) (by omega) (by omega) i2).2
 have hs0:(10000:Rat)≤16384:=by decide
 have ra:=reach_of ia.tq (by omega) (by have:=ia.s;grind)
 have rb:=reach_of ib.tq (by omega) (by have:=ib.s;grind)
 have rs:=reach_of s3 (by omega) (by grind)
 have la:=ia.lone
 have lb:=ib.lone
 have ls:rightI (wid2 a b) (wid2 a b)=true:=right_tq s3 s3 Rat.le_refl
 have ba:Bnd 33000 (sz a):=.inr ⟨by have:=ia.s;grind,by omega⟩
 have bb:Bnd 33000 (sz b):=.inr ⟨by have:=ib.s;grind,by omega⟩
 refine ⟨a,b,wid2 a b,fun r=>ChOk P 73000 r a a true,fun r=>EnOk P 73000 r (shQ (rv a)) (shQ (rv a)) true,
  fun r=>∃ x,ChOk P 73000 x a a true∧r=mulC (P:Int) false x.lo x.hi x.lo x.hi,fun r=>∃ x,EnOk P 73000 x (shQ (rv a)) (shQ (rv a)) true∧r=mulC (P:Int) false x.lo x.hi x.lo x.hi,
  fun r=>Sq 146003 r∧cmpI2 r.lo o1≤0∧cmpI2 o1 r.hi≤0,fun r=>EnOk P 73000 r (exQ (rv a)) (exQ (rv a)) true,fun r=>EnOk P 73000 r (exQ (rv b)) (exQ (rv b)) true,
  fun r=>∃ u v,EnOk P 73000 u (exQ (rv a)) (exQ (rv a)) true∧EnOk P 73000 v (exQ (rv b)) (exQ (rv b)) true∧r=mulC (P:Int) false u.lo u.hi v.lo v.hi,fun r=>EnOk P 171080 r (exQ (rv (wid2 a b))) (exQ (rv (wid2 a b))) true,fun r=>r=⟨false,o1,o1⟩,
  ?_,?_,?_,s1,?_,?_,?_,?_,?_,?_,?_,?_,?_,?_,?_,?_,?_⟩
 · intro g w' k h
   rw [← (pt_q (p:=(P:Int)) (by omega) (by omega) ia.tq).1]
   exact point_I g P false w' k (Da w' h)
 · intro g w' k h
   rw [← (pt_q (p:=(P:Int)) (by omega) (by omega) ib.tq).1]
   exact point_I g P false w' k (Db w' h)
 · intro w' t h
   exact dsum_two w' (Da w' h) (Db w' h) ia.ok ib.ok t
 · intro g w' A' n' c' k h
   rw [← (pt_q (p:=(P:Int)) (by omega) (by omega) s3).1]
   exact point_I g P false w' k (DIn.of_num h s2 s1)
 · intro g w' A n c B m d k t h1 h2
   have:=eCosh_yes (lo:=a) (hi:=a) g P 33000 w' k (DIn.of_num h1 ia.pl ia.ok) (DIn.of_num h2 ia.pl ia.ok) ra ia.nrm ia.nrm t (by omega) (by omega) ba ba (by omega)
   rw [la] at this
   exact this.mono fun e' w'' ⟨r,h,s⟩=>⟨r,h,h.q.bad,s⟩
 · intro g w' A n c B m d k t h1 h2
   have:=eSinh_yes (lo:=a) (hi:=a) g P 33000 w' k (DIn.of_num h1 ia.pl ia.ok) (DIn.of_num h2 ia.pl ia.ok) ra ia.nrm ia.nrm t (by omega) (by omega) ba ba (by omega)
   rw [la] at this
   exact this.mono fun e' w'' ⟨r,h,s⟩=>⟨r,h,h.q.bad,s⟩
 · intro r1 g w' A1 n1 c1 B1 m1 d1 A2 n2 c2 B2 m2 d2 h k t h1 h2 h3 h4
   have G:=h.q.good
   have M:=(mul_q (p:=(P:Int)) (by omega) (by omega) h.q h.q (by omega) (by omega)).1
   exact (smul_any g (P:Int) false w' k (DIn.of_num h1 G.l2 G.l1) (DIn.of_num h2 G.h2 G.h1) (DIn.of_num h3 G.l2 G.l1) (DIn.of_num h4 G.h2 G.h1) t).mono fun e' w'' s=>⟨_,⟨r1,h,rfl⟩,M.bad,s⟩
 · intro r1 g w' A1 n1 c1 B1 m1 d1 A2 n2 c2 B2 m2 d2 h k t h1 h2 h3 h4
   have G:=h.q.good
   have M:=(mul_q (p:=(P:Int)) (by omega) (by omega) h.q h.q (by omega) (by omega)).1
   exact (smul_any g (P:Int) false w' k (DIn.of_num h1 G.l2 G.l1) (DIn.of_num h2 G.h2 G.h1) (DIn.of_num h3 G.l2 G.l1) (DIn.of_num h4 G.h2 G.h1) t).mono fun e' w'' s=>⟨_,⟨r1,h,rfl⟩,M.bad,s⟩
 · rintro r1 r2 g w' A1 n1 c1 B1 m1 d1 A2 n2 c2 B2 m2 d2 ⟨x,X,rfl⟩ ⟨y,Y,rfl⟩ k t h1 h2 h3 h4
   obtain ⟨z1,z2,z3,z4,z5⟩:=rule_one (p:=(P:Int)) (q:=rv a) (by omega) (by omega) X.q Y.q (X.hl _ Rat.le_refl Rat.le_refl) Y.hl q1 (by show Hl (rv o1) (rv o1) _;rw [i3];exact Hl.point _)
   have G:=z1.good
   have G':=z2.good
   exact (ssub_any g (P:Int) false w' k (DIn.of_num h1 G.l2 G.l1) (DIn.of_num h2 G.h2 G.h1) (DIn.of_num h3 G'.l2 G'.l1) (DIn.of_num h4 G'.h2 G'.h1) t).mono fun e' w'' s=>⟨_,⟨z3,z4,z5⟩,z3.bad,s⟩
 · intro g w' k t
   have:=num_any 1 g (P:Int) false w' k t (by omega) (by omega)
   exact this.mono fun e' w'' s=>⟨_,i1,congrArg SRes.bad i1,s⟩
 · rintro r1 r2 w' A1 n1 c1 B1 m1 d1 A2 n2 c2 B2 m2 d2 ⟨z1,z2,z3⟩ rfl h1 h2 h3 h4
   have G:=z1.good
   exact meet_yes w' (DIn.of_num h1 G.l2 G.l1) (DIn.of_num h2 G.h2 G.h1) (DIn.of_num h3 i2.pl i2.ok) (DIn.of_num h4 i2.pl i2.ok) G.l1 G.h1 i2.ok i2.ok z2 z3
 · intro g w' A n c B m d k t h1 h2
   have:=eExp_yes (lo:=wid2 a b) (hi:=wid2 a b) g P 131080 w' k (DIn.of_num h1 s2 s1) (DIn.of_num h2 s2 s1) rs s4 s4 t (by omega) (by omega) (.inl (by omega)) (.inl (by omega)) (by omega)
   rw [ls] at this
   exact this.mono fun e' w'' ⟨r,h,s⟩=>⟨r,h,h.q.bad,s⟩
 · intro g w' A n c B m d k t h1 h2
   have:=eExp_yes (lo:=a) (hi:=a) g P 33000 w' k (DIn.of_num h1 ia.pl ia.ok) (DIn.of_num h2 ia.pl ia.ok) ra ia.nrm ia.nrm t (by omega) (by omega) ba ba (by omega)
   rw [la] at this
   exact this.mono fun e' w'' ⟨r,h,s⟩=>⟨r,h,h.q.bad,s⟩
 · intro g w' A n c B m d k t h1 h2
   have:=eExp_yes (lo:=b) (hi:=b) g P 33000 w' k (DIn.of_num h1 ib.pl ib.ok) (DIn.of_num h2 ib.pl ib.ok) rb ib.nrm ib.nrm t (by omega) (by omega) bb bb (by omega)
   rw [lb] at this
   exact this.mono fun e' w'' ⟨r,h,s⟩=>⟨r,h,h.q.bad,s⟩
 · rintro r1 r2 g w' A1 n1 c1 B1 m1 d1 A2 n2 c2 B2 m2 d2 U V k t h1 h2 h3 h4
   have G:=U.q.good
   have G':=V.q.good
   have M:=(mul_q (p:=(P:Int)) (by omega) (by omega) U.q V.q (by omega) (by omega)).1
   exact (smul_any g (P:Int) false w' k (DIn.of_num h1 G.l2 G.l1) (DIn.of_num h2 G.h2 G.h1) (DIn.of_num h3 G'.l2 G'.l1) (DIn.of_num h4 G'.h2 G'.h1) t).mono fun e' w'' s=>⟨_,⟨r1,r2,U,V,rfl⟩,M.bad,s⟩
 · rintro r1 r2 w' A1 n1 c1 B1 m1 d1 A2 n2 c2 B2 m2 d2 S ⟨u,v,U,V,rfl⟩ h1 h2 h3 h4
   obtain ⟨z1,z2,z3⟩:=rule_sum (p:=(P:Int)) (by omega) (by omega) U.q V.q U.hl V.hl S.q (by rw [← s6];exact S.hl)
   have G:=S.q.good
   have G':=z1.good
   exact meet_yes w' (DIn.of_num h1 G.l2 G.l1) (DIn.of_num h2 G.h2 G.h1) (DIn.of_num h3 G'.l2 G'.l1) (DIn.of_num h4 G'.h2 G'.h1) G.l1 G.h1 G'.l1 G'.h1 z2 z3
end Go.Proofs.YtmbmohibpkepdaaGreatDoor
