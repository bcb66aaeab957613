/-
  The code's enclosing of a constant (series' enclose): first the sum of the shares.
  The code's Pi and Ln2 (series).
-/
import Derived.Test.YtodjldhppbbhdaaGreatDoorPlSerGDy11
import Derived.Test.YtodjldhppbbhdaaGreatDoorPlSerGSp9
import Derived.Test.YtodjldhppbbhdaaGreatDoorPlSerGSp6
import Derived.Test.YtodjldhppbbhdaaGreatDoorPlSerGSp5
import Derived.Test.YtodjldhppbbhdaaGreatDoorPlSerGSe1
import Derived.Test.YtodjldhppbbhdaaGreatDoorPlSerGSe3
namespace Go.Proofs.YtodjldhppbbhdaaGreatDoor
open Go.RowKit
variable {TW : TypeId}

/-- A list of shares in memory: k of them, tf j times the arctangent of 1 over nf j. -/
def Shs (w : World) (ad : Addr) (k : Nat) (tf nf : Nat → Nat) : Prop := ad.block < w.heap.size ∧ ∀ j, j < k → w.cell? (ad.add (j * 2)) = some (.int .u64 ((tf j : Nat) : Int)) ∧ w.cell? ⟨(ad.add (j * 2)).block, (ad.add (j * 2)).off + 1, none⟩ = some (.int .u64 ((nf j : Nat) : Int))
theorem cell_block {w w' : World} {a : Addr} (h : w'.heap[a.block]? = w.heap[a.block]?) : w'.cell? a = w.cell? a := by
  unfold World.cell?
  rw [h]
theorem Shs.only {w w' : World} {ad : Addr} {k : Nat} {tf nf : Nat → Nat} {g : Nat} (h : Shs w ad k tf nf) (o : Only w w' g) (hne : ad.block ≠ g) : Shs w' ad k tf nf := by
  have hb := o.block ad.block h.1 (by simpa using hne)
  refine ⟨Nat.lt_of_lt_of_le h.1 o.size, fun j hj => ?_⟩
  obtain ⟨c1, c2⟩ := h.2 j hj
  exact ⟨(cell_block (by rw [block_of_add]; exact hb)).trans c1, (cell_block (by simp only [block_of_add]; exact hb)).trans c2⟩
/-- The first j shares together. -/
def accN (circ : Bool) (tf nf : Nat → Nat) (bits : Nat) : Nat → Nat
  | 0 => 0
  | j + 1 => accN circ tf nf bits j + unitsN circ (tf j) (nf j) bits
theorem unitsN_b {circ : Bool} {tm n bits : Nat} (hn1 : 2 ≤ n) (hn2 : n < 2 ^ 14) (ht : tm < 2 ^ 8) (hb : bits ≤ 8000) : nb (unitsN circ tm n bits) ≤ 300000 := by
  obtain ⟨t1, t2⟩ := termsN_le hn1 hb
  have BB := betN_b (circ := circ) hn2 (termsN n bits - 1) 0 (termsN n bits) t1 (by omega) (by omega)
  unfold unitsN
  generalize betN circ n (termsN n bits - 1) 0 (termsN n bits) = r at *
  generalize termsN n bits = tN at *
  obtain ⟨p1, p2, p3⟩ := BB
  have q1 : nb tm ≤ 8 := (nb_le_iff _ _).2 ht
  have q2 : nb n ≤ 14 := (nb_le_iff _ _).2 hn2
  have q3 := nb_mul tm n
  have q4 := nb_mul r.sum (tm * n)
  have q5 := nb_mono (Nat.div_le_self (r.sum * (tm * n) * 2 ^ bits) r.below)
  have q6 : nb (r.sum * (tm * n) * 2 ^ bits) ≤ 250000 := by
    rcases Nat.eq_zero_or_pos (r.sum * (tm * n)) with h0 | h0
    · rw [h0, Nat.zero_mul, nb_zero]; omega
    · rw [nb_mul_pow h0]; omega
  omega
theorem accN_b {circ : Bool} {tf nf : Nat → Nat} {bits k : Nat} (hs : ∀ j, j < k → 2 ≤ nf j ∧ nf j < 2 ^ 14 ∧ 0 < tf j ∧ tf j < 2 ^ 8) (hb : bits ≤ 8000) : ∀ j, j ≤ k → nb (accN circ tf nf bits j) ≤ 300000 + j
  | 0, _ => by show nb 0 ≤ _; rw [nb_zero]; omega
  | j + 1, h => by
    have h1 := accN_b hs hb j (by omega) (circ := circ)
    obtain ⟨a, b, _, d⟩ := hs j (by omega)
    have h2 := unitsN_b (circ := circ) a b d hb
    have := nb_add (X := accN circ tf nf bits j) (Y := unitsN circ (tf j) (nf j) bits) (K := 300000 + j) h1 (by omega)
    unfold accN
    omega
def encN (circ : Bool) (tf nf : Nat → Nat) (k tm n bits : Nat) : Nat := 2 * ((accN circ tf nf bits k - unitsN circ tm n bits) / 2) + 1
/-- A middle, and as much as is lost on either side of it. -/
def rimR (p : Int) (bad : Bool) : SRes := hullS p (numS p (numS p bad (-16)).bad 16).bad (numS p bad (-16)).lo (numS p bad (-16)).hi (numS p (numS p bad (-16)).bad 16).lo (numS p (numS p bad (-16)).bad 16).hi
def midR (p : Int) (S : Nat) : SRes := ptI p false ⟨plainV false S (-(p + 64)), false, S, -(p + 64)⟩
def scR (p : Int) (bad : Bool) : SRes := scaleS p (rimR p bad).bad (rimR p bad).lo (rimR p bad).hi (-(p + 64))
def encR (p : Int) (S : Nat) : SRes := addS p (scR p (midR p S).bad).bad (midR p S).lo (midR p S).hi (scR p (midR p S).bad).lo (scR p (midR p S).bad).hi
/-- A span of the call's own is written. -/
theorem NS.put6 {w : World} {g : Nat} {na nb' : Bool} {A B : Option Addr} {n c m d : Nat} {ea eb : Int} (hb : Blk6 w g (.bool na) (.slice A n c) (.int .i64 ea) (.bool nb') (.slice B m d) (.int .i64 eb)) (x y z x' y' z' : Value) : ∀ {ns : List (Value × Nat)}, NS w ns → NS (put6 w g x y z x' y' z') ns
  | [], _ => trivial
  | (_, _) :: _, h => ⟨num_put6 h.1 hb x y z x' y' z', NS.put6 hb x y z x' y' z' h.2⟩
theorem st_put6 {T : TypeId} {w wi : World} {g : Nat} {p : Int} {bad : Bool} {ks : List (TypeId × Nat × Array Value)} {ns : List (Value × Nat)} (h : St T w g p bad wi ks ns) {a : Nat} (k : KC 29 wi a zs) (ha : w.heap.size ≤ a) (hne : NeS a ks) (x y z x' y' z' : Value) :
    St T w g p bad (put6 wi a x y z x' y' z') ((29, a, #[x, y, z, x', y', z']) :: ks) ns :=
  (h.other (only_put6 _ _ _ _ _ _ _ _) ha (h.ks.put (only_put6 _ _ _ _ _ _ _ _) hne) (h.ns.put6 k.b6 x y z x' y' z')).blk (k.put6 x y z x' y' z') (by have := h.hg; omega)
theorem or_one (x : Nat) : x ||| 1 = 2 * (x / 2) + 1 := by
  have h1 : (x ||| 1) % 2 = 1 := Nat.or_mod_two_eq_one.2 (.inr rfl)
  have h2 : (x ||| 1) / 2 = x / 2 := by rw [Nat.or_div_two]; simp
  omega
theorem or_u64 (x : Nat) (hx : x < B64) : bits .or .u64 ((x : Nat) : Int) 1 = ((2 * (x / 2) + 1 : Nat) : Int) := by
  rw [show (1 : Int) = ((1 : Nat) : Int) from rfl, u64_or_nat _ _ hx (by omega), or_one]
theorem din_num {w : World} {A : Option Addr} {n c V : Nat} {neg : Bool} {e : Int} (h : Num w (.slice A n c) V) (hV : nb V ≤ 6100000) : DIn w A n c ⟨plainV neg V e, neg, V, e⟩ := by
  have hl := Num.len 100000 h (by omega)
  obtain ⟨A', n', c', f, hv, hs, hc, he⟩ := h
  injection hv with h1 h2 h3
  subst h1 h2 h3
  exact ⟨f, hs, by omega, he.symm, by rw [plain_V hc, he]⟩
theorem ks_ne {w : World} {g : Nat} : ∀ {ks : List (TypeId × Nat × Array Value)}, KS w g ks → NeS w.heap.size ks
  | [], _ => trivial
  | (_, _, _) :: _, h => ⟨Nat.ne_of_lt h.1.1.2, ks_ne h.2⟩
/-- A span that is answered into a variable of its own. -/
def EP (T : TypeId) (w : World) (g : Nat) (p : Int) (ks : List (TypeId × Nat × Array Value)) (ns : List (Value × Nat)) (r : SRes) (s : Value) (wx : World) : Prop := ∃ a A n c B m d, s = .pointer (some ⟨a, 0, none⟩) ∧ w.heap.size ≤ a ∧ NeS a ks ∧ St T w g p r.bad wx ((29, a, #[.bool r.lo.neg, .slice A n c, .int .i64 r.lo.e, .bool r.hi.neg, .slice B m d, .int .i64 r.hi.e]) :: ks) ((.slice A n c, r.lo.m) :: (.slice B m d, r.hi.m) :: ns)
section
variable {T : TypeId} {w v : World} {g : Nat} {p : Int} {ks : List (TypeId × Nat × Array Value)} {ns ns' : List (Value × Nat)} {r : SRes} {A B : Option Addr} {n c m d a : Nat}
theorem end_ep (h : St T w g p r.bad v ks ns') (h1 : Num v (.slice A n c) r.lo.m) (h2 : Num v (.slice B m d) r.hi.m) (hn : NS v ns) (k : KC 29 v a zs) (ha : w.heap.size ≤ a) (hne : NeS a ks) :
    EP T w g p ks ns r (.pointer (some ⟨a, 0, none⟩)) (put6 v a (.bool r.lo.neg) (.slice A n c) (.int .i64 r.lo.e) (.bool r.hi.neg) (.slice B m d) (.int .i64 r.hi.e)) := by
  have h' : St T w g p r.bad v ks ((.slice A n c, r.lo.m) :: (.slice B m d, r.hi.m) :: ns) := ⟨h.hg, h.O, h.W, h.ks, h1, h2, hn⟩
  exact ⟨a, A, n, c, B, m, d, rfl, ha, hne, st_put6 h' k ha hne _ _ _ _ _ _⟩
theorem end_ea (h : St T w g p r.bad v ks ns') (h1 : Num v (.slice A n c) r.lo.m) (h2 : Num v (.slice B m d) r.hi.m) (hn : NS v ns) :
    EP T w g p ks ns r (.pointer (some ⟨v.heap.size, 0, none⟩)) (v.alloc (.cells #[.bool r.lo.neg, .slice A n c, .int .i64 r.lo.e, .bool r.hi.neg, .slice B m d, .int .i64 r.hi.e] 29)) := by
  have h' : St T w g p r.bad v ks ((.slice A n c, r.lo.m) :: (.slice B m d, r.hi.m) :: ns) := ⟨h.hg, h.O, h.W, h.ks, h1, h2, hn⟩
  exact ⟨v.heap.size, A, n, c, B, m, d, rfl, h.size, ks_ne h.ks, h'.alloc _ _⟩
end
set_option maxRecDepth 8000 in
set_option maxHeartbeats 4000000 in
theorem encl_any (circ : Bool) (ad : Addr) (k : Nat) (tf nf : Nat → Nat) (tm n : Nat) (g : Nat) (p : Int) (w : World) (hp1 : 16 ≤ p) (hp2 : p ≤ 600) (hW : Wk TW w g p false) (hT : Tab w) (hL : Shs w ad k tf nf) (hne : ad.block ≠ g) (hk : k ≤ 10)
    (hs : ∀ j, j < k → 2 ≤ nf j ∧ nf j < 2 ^ 14 ∧ 0 < tf j ∧ tf j < 2 ^ 8) (hn1 : 2 ≤ n) (hn2 : n < 2 ^ 14) (ht1 : 0 < tm) (ht2 : tm < 2 ^ 8) (hpos : unitsN circ tm n (p.toNat + 64) < accN circ tf nf (p.toNat + 64) k) :
    Calls Tryz.prog 22 #[.pointer (some ⟨g, 0, none⟩), .bool circ, .slice (some ad) k k, shv tm n] w (SPost TW w g p (encR p (encN circ tf nf k tm n (p.toNat + 64)))) := by
  obtain ⟨bits, hbits⟩ : ∃ b : Nat, b = p.toNat + 64 := ⟨_, rfl⟩
  rw [← hbits] at hpos ⊢
  have hbI : p + 64 = (bits : Int) := by omega
  have hb8 : bits ≤ 8000 := by omega
  have S : St TW w g p false ((w.alloc (cs2 tm n)).alloc (.cells zs 29)) [(29, w.heap.size + 1, zs), (49, w.heap.size, #[.int .u64 ((tm : Nat) : Int), .int .u64 ((n : Nat) : Int)])] [] := by
    have h := ((St.start hW).alloc 49 #[.int .u64 ((tm : Nat) : Int), .int .u64 ((n : Nat) : Int)]).alloc 29 zs
    rw [show (w.alloc (.cells #[.int .u64 ((tm : Nat) : Int), .int .u64 ((n : Nat) : Int)] 49)).heap.size = w.heap.size + 1 by simp] at h
    exact h
  have GG : Hid (∀ w', Wk TW w' g p false → Calls Tryz.prog 47 #[.pointer (some ⟨g, 0, none⟩)] w' fun e w2 => e = .returned (.bool true) ∧ Wk TW w2 g p false ∧ Only w' w2 g) := Lib.hid (fun w' h => by
    have := goes_any g p false w' h
    have hgb : goesBad p false = false := by
      unfold goesBad
      simp
      omega
    unfold GoesP at this
    rw [hgb] at this
    exact this)
  have UN : Hid (∀ w' j, j < k → Calls Tryz.prog 49 #[shv (tf j) (nf j), .bool circ, .int .i64 ((bits : Nat) : Int)] w' (NP w' (unitsN circ (tf j) (nf j) bits))) := Lib.hid (fun w' j hj => by
    obtain ⟨a, b, c, d⟩ := hs j hj
    exact units_any circ (tf j) (nf j) bits a b c d hb8 w')
  have UT : Hid (∀ w', Calls Tryz.prog 49 #[shv tm n, .bool circ, .int .i64 ((bits : Nat) : Int)] w' (NP w' (unitsN circ tm n bits))) := Lib.hid (fun w' => units_any circ tm n bits hn1 hn2 ht1 ht2 hb8 w')
  have AB : Hid (∀ j, j ≤ k → nb (accN circ tf nf bits j) ≤ 6000000) := Lib.hid (fun j hj => by have := accN_b hs hb8 j hj (circ := circ); omega)
  have UB : Hid (∀ j, j < k → nb (unitsN circ (tf j) (nf j) bits) ≤ 6000000) := Lib.hid (fun j hj => by
    obtain ⟨a, b, c, d⟩ := hs j hj
    have := unitsN_b (circ := circ) a b d hb8
    omega)
  have UBT : Hid (nb (unitsN circ tm n bits) ≤ 6000000) := Lib.hid (by have := unitsN_b (circ := circ) hn1 hn2 ht2 hb8; omega)
  have HPOS := Lib.hid hpos
  have HLL := Lib.hid hL
  have HTT := Lib.hid hT
  have HWW := Lib.hid hW
  obtain ⟨kw0, kw1⟩ := S.wc
  have hwl := S.lt
  have HTX : Hid (encR p (encN circ tf nf k tm n bits) = encR p (2 * ((accN circ tf nf bits k - unitsN circ tm n bits) / 2) + 1)) := Lib.hid rfl
  clear hs hpos hL hT hW hbits
  go_enter Tryz.func22, Tryz.ntmps22
  go_wp2_with fail
  refine (GG.out _ S.W).mono ?_
  clear GG kw0 kw1 hwl
  generalize (w.alloc (cs2 tm n)).alloc (.cells zs 29) = w1 at *
  rintro e' w2 ⟨rfl, hW2, o2⟩
  replace S := S.only o2 hW2
  clear o2 hW2
  obtain ⟨kw0, kw1⟩ := S.wc
  have hwl := S.lt
  have hwr : IntKind.i64.wrap (bits : Int) = (bits : Int) := wrap_id (by omega) (by omega)
  go_wp2_with fail
  go_loopw [10, 27] (fun s10 s27 wr => ∃ (j : Nat) (A : Option Addr) (q c : Nat), j ≤ k ∧ s27 = .int .i64 (j : Int) ∧ s10 = .slice A q c ∧ Num wr (.slice A q c) (accN circ tf nf bits j) ∧ St TW w g p false wr [(29, w.heap.size + 1, zs), (49, w.heap.size, #[.int .u64 ((tm : Nat) : Int), .int .u64 ((n : Nat) : Int)])] []) (fun _ s27 _ => k - (intOf s27).toNat)
  case atStart => exact ⟨0, none, 0, 0, Nat.zero_le _, rfl, rfl, num_nil _, S⟩
  case round =>
    clear S kw0 kw1 hwl
    obtain ⟨j, A, q, c, hj, rfl, rfl, N, S⟩ := hrel
    by_cases hlt : j < k
    · obtain ⟨hbl, hcl⟩ := HLL.out.only S.O hne
      obtain ⟨c0, c1⟩ := hcl j hlt
      have UJ := Lib.hid (UN.out (wr.alloc (.cells #[.int .u64 ((tf j : Nat) : Int), .int .u64 ((nf j : Nat) : Int)] 49)) j hlt)
      have HJ : Hid (accN circ tf nf bits (j + 1) = accN circ tf nf bits j + unitsN circ (tf j) (nf j) bits) := Lib.hid rfl
      have hab := AB.out j hj
      have hub := UB.out j hlt
      clear hcl UN AB UB UT UBT HPOS HLL HTT HWW HTX
      generalize unitsN circ (tf j) (nf j) bits = U at *
      generalize accN circ tf nf bits j = V at *
      have HN := Lib.hid (⟨N, hab, hub⟩ : Num wr (.slice A q c) V ∧ nb V ≤ 6000000 ∧ nb U ≤ 6000000)
      clear N hab hub
      go_wp2_with fail
      refine UJ.out.mono ?_
      have b3 := alloc_bel wr (.cells #[.int .u64 ((tf j : Nat) : Int), .int .u64 ((nf j : Nat) : Int)] 49)
      generalize wr.alloc (.cells #[.int .u64 ((tf j : Nat) : Int), .int .u64 ((nf j : Nat) : Int)] 49) = w3 at *
      rintro e' w4 ⟨A4, p4, c4, rfl, N4, b4⟩
      have B4 := below_step b3 b4
      have AD := Lib.hid (addN w4 (HN.out.1.below B4) N4 HN.out.2.1 HN.out.2.2)
      clear b3 b4 N4 c0 c1 hbl UJ
      go_wp2_with fail
      refine AD.out.mono ?_
      rintro e' w5 ⟨A5, p5, c5, rfl, N5, b5⟩
      have B5 := below_step B4 b5
      go_wp2_with fail
      go_roundw
      case rel => exact ⟨j + 1, A5, p5, c5, by omega, by go_num, rfl, by rw [HJ.out]; exact N5, S.below B5⟩
      case measure => simp [intOf]; omega
    · obtain rfl : j = k := by omega
      clear hlt
      have k0 := S.ks.2.1.1.at_ 0 _ rfl
      have k1 := S.ks.2.1.1.at_ 1 _ rfl
      have hab := AB.out j hj
      have hub := UBT.out
      have UTH := Lib.hid (UT.out wr)
      clear UN AB UB UT UBT
      generalize unitsN circ tm n bits = U at *
      generalize accN circ tf nf bits j = V at *
      have HN := Lib.hid (⟨N, hab, hub⟩ : Num wr (.slice A q c) V ∧ nb V ≤ 6000000 ∧ nb U ≤ 6000000)
      have HVB := Lib.hid hab
      clear N hab hub
      go_wp2_with fail
      refine UTH.out.mono ?_
      rintro e' w4 ⟨A4, p4, c4, rfl, N4, b4⟩
      have SB := Lib.hid (subR w4 (HN.out.1.below b4) N4 HN.out.2.1 HN.out.2.2 HPOS.out)
      replace S := S.below b4
      clear UTH k0 k1 HN N4 b4
      go_wp2_with fail
      refine SB.out.mono ?_
      rintro e' w5 ⟨gs, qs, cs', Fs, rfl, hrow, hq0, hqc, hq6, hcn, hv, hgs4, b5⟩
      clear SB
      have x0 := hrow.cell hq0
      have xf := hrow.frozen 0
      obtain ⟨X, hX⟩ : ∃ X : Nat, X = 2 * (Fs 0 / 2) + 1 := ⟨_, rfl⟩
      have hF0 := hrow.2 0 hq0
      have hor := or_u64 (Fs 0) hF0
      rw [← hX] at hor
      obtain ⟨NO, oS⟩ := row_odd hrow hq0 hqc hcn hv hX
      have S5 := S.below b5
      have hgs : w.heap.size ≤ gs ∧ gs ≠ w.heap.size + 1 ∧ gs ≠ w.heap.size := by
        have h1 := S.ks.1.1.2
        omega
      have S6 := S5.other oS hgs.1 (S5.ks.put oS ⟨Ne.symm hgs.2.1, Ne.symm hgs.2.2, trivial⟩) trivial
      obtain ⟨Z, hZ⟩ : ∃ Z : Nat, Z = 2 * ((V - U) / 2) + 1 := ⟨_, rfl⟩
      rw [← hZ] at NO HTX
      have hZb : nb Z ≤ 6100000 := by
        have h1 := nb_mono (Nat.sub_le V U)
        have h0 := HVB.out
        have h9 := HPOS.out
        have h2 := nb_mul_pow (V := V - U) (by omega) 1
        have h3 : Z ≤ (V - U) * 2 ^ 1 + 1 := by rw [hZ]; omega
        have h4 := nb_mono h3
        have h5 := nb_add (X := (V - U) * 2 ^ 1) (Y := 1) (K := 6050000) (by omega) (by rw [show nb 1 = 1 from by decide]; omega)
        omega
      have PT := point_I (r := ⟨plainV false Z (-(bits : Int)), false, Z, -(bits : Int)⟩) g p false _ S6.W (din_num (neg := false) (e := -(bits : Int)) NO hZb)
      have HM : Hid (midR p Z = ptI p false ⟨plainV false Z (-(bits : Int)), false, Z, -(bits : Int)⟩) := Lib.hid (by unfold midR; rw [hbI])
      rw [← HM.out] at PT
      have GM : SGood (midR p Z) := by rw [HM.out]; exact sgood_pt (fun h => plainR_of h)
      have PTH := Lib.hid PT
      have S6H := Lib.hid S6
      clear PT HM hZb hZ hgs NO oS hX hF0 S5 S6 hrow hcn hv b5 HVB HPOS
      go_wp2_with fail
      refine PTH.out.mono ?_
      clear PTH x0 xf hor
      have S := S6H.out
      generalize w5.setCell ⟨gs, 0, none⟩ (.int .u64 (X : Int)) = w6 at *
      clear S6H
      rintro e' w7 ⟨A6, n6, c6, B6, m6, d6, rfl, N1, N2, hW7, o7⟩
      have S7 := ((S.only o7 hW7).num N2).num N1
      clear S N1 N2 hW7 o7
      have HTE : Hid (encR p (encN circ tf nf j tm n bits) = addS p (scR p (midR p Z).bad).bad (midR p Z).lo (midR p Z).hi (scR p (midR p Z).bad).lo (scR p (midR p Z).bad).hi) := Lib.hid (by rw [HTX.out]; rfl)
      clear HTX
      generalize midR p Z = m at *
      obtain ⟨kw0, kw1⟩ := S7.wc
      have hwl := S7.lt
      go_upto_region 13 with fail
      have b8 := alloc_bel w7 (.cells #[.bool m.lo.neg, .slice A6 n6 c6, .int .i64 m.lo.e, .bool m.hi.neg, .slice B6 m6 d6, .int .i64 m.hi.e] 29)
      have S8 : St TW w g p m.bad (w7.alloc (.cells #[.bool m.lo.neg, .slice A6 n6 c6, .int .i64 m.lo.e, .bool m.hi.neg, .slice B6 m6 d6, .int .i64 m.hi.e] 29)) [(29, w7.heap.size, #[.bool m.lo.neg, .slice A6 n6 c6, .int .i64 m.lo.e, .bool m.hi.neg, .slice B6 m6 d6, .int .i64 m.hi.e]), (29, w.heap.size + 1, zs), (49, w.heap.size, #[.int .u64 ((tm : Nat) : Int), .int .u64 ((n : Nat) : Int)])] [(.slice A6 n6 c6, m.lo.m), (.slice B6 m6 d6, m.hi.m)] := S7.alloc 29 #[.bool m.lo.neg, .slice A6 n6 c6, .int .i64 m.lo.e, .bool m.hi.neg, .slice B6 m6 d6, .int .i64 m.hi.e]
      have hz7 : w.heap.size ≤ w7.heap.size := S7.size
      have hz7' : w.heap.size + 1 < w7.heap.size := S7.ks.1.1.2
      clear S7 b8
      generalize w7.alloc (.cells #[.bool m.lo.neg, .slice A6 n6 c6, .int .i64 m.lo.e, .bool m.hi.neg, .slice B6 m6 d6, .int .i64 m.hi.e] 29) = w8 at *
      obtain ⟨r1, hr1⟩ : ∃ r : SRes, r = numS p m.bad (-16) := ⟨_, rfl⟩
      obtain ⟨r2, hr2⟩ : ∃ r : SRes, r = numS p r1.bad 16 := ⟨_, rfl⟩
      obtain ⟨r3, hr3⟩ : ∃ r : SRes, r = hullS p r2.bad r1.lo r1.hi r2.lo r2.hi := ⟨_, rfl⟩
      obtain ⟨r4, hr4⟩ : ∃ r : SRes, r = scaleS p r3.bad r3.lo r3.hi (-(bits : Int)) := ⟨_, rfl⟩
      obtain ⟨r5, hr5⟩ : ∃ r : SRes, r = addS p r4.bad m.lo m.hi r4.lo r4.hi := ⟨_, rfl⟩
      have G1 : SGood r1 := by rw [hr1]; exact sgood_num (by omega) (by omega)
      have G2 : SGood r2 := by rw [hr2]; exact sgood_num (by omega) (by omega)
      have G3 : SGood r3 := by rw [hr3]; exact sgood_hull (fun _ => plainR_of G1.l2) (fun _ => plainR_of G1.h2) (fun _ => plainR_of G2.l2) (fun _ => plainR_of G2.h2)
      have G4 : SGood r4 := by rw [hr4]; exact sgood_two (plIf_mk _ _ _) (plIf_mk _ _ _)
      have HE5 : Hid (encR p (encN circ tf nf j tm n bits) = r5) := Lib.hid (by
        rw [HTE.out, hr5, hr4, hr3, hr2, hr1]
        unfold scR rimR
        rw [hbI])
      have TB : Hid (∀ b w' ks ns, St TW w g p b w' ks ns → Tab w') := Lib.hid (fun b w' ks ns h => HTT.out.wk HWW.out h.O)
      have C1 : Hid (∀ w' ks ns, St TW w g p m.bad w' ks ns → Calls Tryz.prog 17 #[.pointer (some ⟨g, 0, none⟩), .int .i64 (-16)] w' (SPost TW w' g p r1)) := Lib.hid (fun w' ks ns h => by rw [hr1]; exact num_any (-16) g p m.bad w' h.W (TB.out _ _ _ _ h) (by omega) (by omega))
      have C2 : Hid (∀ w' ks ns, St TW w g p r1.bad w' ks ns → Calls Tryz.prog 17 #[.pointer (some ⟨g, 0, none⟩), .int .i64 16] w' (SPost TW w' g p r2)) := Lib.hid (fun w' ks ns h => by rw [hr2]; exact num_any 16 g p r1.bad w' h.W (TB.out _ _ _ _ h) (by omega) (by omega))
      have C3 : Hid (∀ w' ks ns A n c B m d A' n' c' B' m' d', St TW w g p r2.bad w' ks ns → Num w' (.slice A n c) r1.lo.m → Num w' (.slice B m d) r1.hi.m → Num w' (.slice A' n' c') r2.lo.m → Num w' (.slice B' m' d') r2.hi.m → Calls Tryz.prog 51 #[.pointer (some ⟨g, 0, none⟩), spv r1.lo.neg A n c r1.lo.e r1.hi.neg B m d r1.hi.e, spv r2.lo.neg A' n' c' r2.lo.e r2.hi.neg B' m' d' r2.hi.e] w' (SPost TW w' g p r3)) := Lib.hid (fun w' ks ns A n c B m d A' n' c' B' m' d' h h1 h2 h3 h4 => by
        rw [hr3]
        exact hull_any g p r2.bad w' h.W (DIn.of_num h1 G1.l2 G1.l1) (DIn.of_num h2 G1.h2 G1.h1) (DIn.of_num h3 G2.l2 G2.l1) (DIn.of_num h4 G2.h2 G2.h1))
      have C4 : Hid (∀ w' ks ns A n c B m d (z : Int), z = -(bits : Int) → St TW w g p r3.bad w' ks ns → Num w' (.slice A n c) r3.lo.m → Num w' (.slice B m d) r3.hi.m → Calls Tryz.prog 52 #[.pointer (some ⟨g, 0, none⟩), spv r3.lo.neg A n c r3.lo.e r3.hi.neg B m d r3.hi.e, .int .i64 z] w' (SPost TW w' g p r4)) := Lib.hid (fun w' ks ns A n c B m d z hz h h1 h2 => by
        rw [hr4, hz]
        exact scale_any g p r3.bad _ w' h.W (DIn.of_num h1 G3.l2 G3.l1) (DIn.of_num h2 G3.h2 G3.h1) (TB.out _ _ _ _ h) (by omega) (by omega))
      have C5 : Hid (∀ w' ks ns A n c B m_ d A' n' c' B' m' d', St TW w g p r4.bad w' ks ns → Num w' (.slice A n c) m.lo.m → Num w' (.slice B m_ d) m.hi.m → Num w' (.slice A' n' c') r4.lo.m → Num w' (.slice B' m' d') r4.hi.m → Calls Tryz.prog 43 #[.pointer (some ⟨g, 0, none⟩), spv m.lo.neg A n c m.lo.e m.hi.neg B m_ d m.hi.e, spv r4.lo.neg A' n' c' r4.lo.e r4.hi.neg B' m' d' r4.hi.e] w' (SPost TW w' g p r5)) := Lib.hid (fun w' ks ns A n c B m_ d A' n' c' B' m' d' h h1 h2 h3 h4 => by
        rw [hr5]
        exact sadd_any g p r4.bad w' h.W (DIn.of_num h1 GM.l2 GM.l1) (DIn.of_num h2 GM.h2 GM.h1) (DIn.of_num h3 G4.l2 G4.l1) (DIn.of_num h4 G4.h2 G4.h1) (TB.out _ _ _ _ h))
      clear hr1 hr2 hr3 hr4 hr5 HTE TB HTT HWW G1 G2 G3 G4 GM hwl kw0 kw1
      have HC : Hid (∀ b w' ks ns, St TW w g p b w' ks ns → w'.cell? ⟨g, 0, none⟩ = some (.int .i64 p)) := Lib.hid (fun b w' ks ns h => h.wc.1)
      have HP : Hid (∀ b w' ks ns, St TW w g p b w' ks ns → ∀ a, w.heap.size ≤ a → ∀ x y z x' y' z', (put6 w' a x y z x' y' z').cell? ⟨g, 0, none⟩ = some (.int .i64 p)) := Lib.hid (fun b w' ks ns h a ha x y z x' y' z' => (h.W.only (only_put6 w' a x y z x' y' z') (by have := h.hg; omega)).cell.1)
      go_cut [14] (fun s14 wx => EP TW w g p [(29, w7.heap.size, #[.bool m.lo.neg, .slice A6 n6 c6, .int .i64 m.lo.e, .bool m.hi.neg, .slice B6 m6 d6, .int .i64 m.hi.e]), (29, w.heap.size + 1, zs), (49, w.heap.size, #[.int .u64 ((tm : Nat) : Int), .int .u64 ((n : Nat) : Int)])] [(.slice A6 n6 c6, m.lo.m), (.slice B6 m6 d6, m.hi.m)] r3 s14 wx)
      case first =>
        have SD := S8.drew
        have SA := (S8.below (alloc_bel w8 (.cells zs 29))).drew
        have YA := (KC.made 29 w8 zs).drew
        have hz8 : w.heap.size ≤ w8.heap.size := S8.size
        have hz8' : w7.heap.size < w8.heap.size := S8.ks.1.1.2
        have hgw : g < w.heap.size := S8.hg
        have XS := HC.out _ _ _ _ SD
        have XA := HC.out _ _ _ _ SA
        go_region_held3 (fun _ => True)
          (exact True.intro)
          (first
            | (go_at_call 17; have hV1 := V1; refine (C2.out _ _ _ (by first | with_reducible exact V1 | with_reducible exact V1.below (alloc_bel _ _))).mono ?_; rintro e' v2 ⟨A2, n2, c2, B2, m2, d2, rfl, N1, N2, W2, o2⟩; have V2 : St TW w g p r2.bad v2 [(29, w7.heap.size, #[.bool m.lo.neg, .slice A6 n6 c6, .int .i64 m.lo.e, .bool m.hi.neg, .slice B6 m6 d6, .int .i64 m.hi.e]), (29, w.heap.size + 1, zs), (49, w.heap.size, #[.int .u64 ((tm : Nat) : Int), .int .u64 ((n : Nat) : Int)])] ((.slice A2 n2 c2, r2.lo.m) :: (.slice B2 m2 d2, r2.hi.m) :: (.slice A1 n1 c1, r1.lo.m) :: (.slice B1 m1 d1, r1.hi.m) :: [(.slice A6 n6 c6, m.lo.m), (.slice B6 m6 d6, m.hi.m)]) := (by first | with_reducible exact ((V1.only o2 W2).num N2).num N1 | with_reducible exact (((V1.below (alloc_bel _ _)).only o2 W2).num N2).num N1); have hv2 : w7.heap.size < v2.heap.size := V2.ks.1.1.2; have hv2g : g < v2.heap.size := V2.lt; have q1 := V2.ns.2.2.1; have q2 := V2.ns.2.2.2.1; have q3 := V2.ns.1; have q4 := V2.ns.2.1; first | (have ox : Only v1 v2 g := (by with_reducible exact o2); have yb := ya.only ox (by omega)) | (have ox : Only (v1.alloc (.cells zs 29)) v2 g := (by with_reducible exact o2); have yb := (KC.made 29 v1 zs).only ox (by omega)) | skip)
            | (go_at_call 17; refine (C1.out _ _ _ (by first | with_reducible exact SD | with_reducible exact SA)).mono ?_; rintro e' v1 ⟨A1, n1, c1, B1, m1, d1, rfl, N1, N2, W1, o1⟩; have V1 : St TW w g p r1.bad v1 [(29, w7.heap.size, #[.bool m.lo.neg, .slice A6 n6 c6, .int .i64 m.lo.e, .bool m.hi.neg, .slice B6 m6 d6, .int .i64 m.hi.e]), (29, w.heap.size + 1, zs), (49, w.heap.size, #[.int .u64 ((tm : Nat) : Int), .int .u64 ((n : Nat) : Int)])] ((.slice A1 n1 c1, r1.lo.m) :: (.slice B1 m1 d1, r1.hi.m) :: [(.slice A6 n6 c6, m.lo.m), (.slice B6 m6 d6, m.hi.m)]) := (by first | with_reducible exact ((SD.only o1 W1).num N2).num N1 | with_reducible exact ((SA.only o1 W1).num N2).num N1); have hv1 : w7.heap.size < v1.heap.size := V1.ks.1.1.2; have hv1g : g < v1.heap.size := V1.lt; first | (have ox : Only (w8.alloc (.cells zs 29)).drew v1 g := (by with_reducible exact o1); have ya := YA.only ox (by omega)) | skip)
            | (go_at_call 51; refine (C3.out _ _ _ _ _ _ _ _ _ _ _ _ _ _ _ (by first | with_reducible exact V2 | with_reducible exact V2.below (alloc_bel _ _)) (by first | with_reducible exact q1 | with_reducible exact num_al q1 _) (by first | with_reducible exact q2 | with_reducible exact num_al q2 _) (by first | with_reducible exact q3 | with_reducible exact num_al q3 _) (by first | with_reducible exact q4 | with_reducible exact num_al q4 _)).mono ?_; rintro e' v3 ⟨A3, n3, c3, B3, m3, d3, rfl, N1, N2, W3, o3⟩; have V3 : St TW w g p r3.bad v3 [(29, w7.heap.size, #[.bool m.lo.neg, .slice A6 n6 c6, .int .i64 m.lo.e, .bool m.hi.neg, .slice B6 m6 d6, .int .i64 m.hi.e]), (29, w.heap.size + 1, zs), (49, w.heap.size, #[.int .u64 ((tm : Nat) : Int), .int .u64 ((n : Nat) : Int)])] ((.slice A3 n3 c3, r3.lo.m) :: (.slice B3 m3 d3, r3.hi.m) :: (.slice A2 n2 c2, r2.lo.m) :: (.slice B2 m2 d2, r2.hi.m) :: (.slice A1 n1 c1, r1.lo.m) :: (.slice B1 m1 d1, r1.hi.m) :: [(.slice A6 n6 c6, m.lo.m), (.slice B6 m6 d6, m.hi.m)]) := (by first | with_reducible exact ((V2.only o3 W3).num N2).num N1 | with_reducible exact (((V2.below (alloc_bel _ _)).only o3 W3).num N2).num N1); first | (have ox : Only v2 v3 g := (by with_reducible exact o3); have z1 := yb.only ox (by omega); have z1a : w.heap.size ≤ w8.heap.size ∧ w.heap.size ≤ v1.heap.size := ⟨by omega, by omega⟩; have z1c0 := z1.at_ 0 _ rfl; have z1c1 := z1.at_ 1 _ rfl; have z1c2 := z1.at_ 2 _ rfl; have z1c3 := z1.at_ 3 _ rfl; have z1c4 := z1.at_ 4 _ rfl; have z1c5 := z1.at_ 5 _ rfl; have z1f0 := z1.fr 0; have z1f1 := z1.fr 1; have z1f2 := z1.fr 2; have z1f3 := z1.fr 3; have z1f4 := z1.fr 4; have z1f5 := z1.fr 5; have z1l := z1.2; have z1n := Nat.ne_of_lt z1.2; have z1n2 := Nat.ne_of_gt z1.2) | (have ox : Only (v2.alloc (.cells zs 29)) v3 g := (by with_reducible exact o3); have z1 := (KC.made 29 v2 zs).only ox (by omega); have z1c0 := z1.at_ 0 _ rfl; have z1c1 := z1.at_ 1 _ rfl; have z1c2 := z1.at_ 2 _ rfl; have z1c3 := z1.at_ 3 _ rfl; have z1c4 := z1.at_ 4 _ rfl; have z1c5 := z1.at_ 5 _ rfl; have z1f0 := z1.fr 0; have z1f1 := z1.fr 1; have z1f2 := z1.fr 2; have z1f3 := z1.fr 3; have z1f4 := z1.fr 4; have z1f5 := z1.fr 5; have z1l := z1.2; have z1n := Nat.ne_of_lt z1.2; have z1n2 := Nat.ne_of_gt z1.2) | skip))
        all_goals (
          go_wp2_with fail
          go_meet
          have f1 := V3.ns.1
          have f2 := V3.ns.2.1
          have f3 : NS v3 [(.slice A6 n6 c6, m.lo.m), (.slice B6 m6 d6, m.hi.m)] := V3.ns.2.2.2.2.2.2
          first
            | ((with_reducible refine end_ep V3 f1 f2 f3 z1 ?_ ?_) <;> first | omega | exact ⟨by omega, by omega, by omega, trivial⟩)
            | with_reducible exact end_ea V3 f1 f2 f3)
      case rest =>
        obtain ⟨g14, A7, n7, c7, B7, m7, d7, rfl, hg14, hne14, V4⟩ := hcut
        obtain ⟨hd1, hd2, hd3, _⟩ := hne14
        have hk14 := V4.ks.1.1.2
        have HC4 : Hid (∀ b w' ns, St TW w g p b w' [(29, g14, #[.bool r3.lo.neg, .slice A7 n7 c7, .int .i64 r3.lo.e, .bool r3.hi.neg, .slice B7 m7 d7, .int .i64 r3.hi.e]), (29, w7.heap.size, #[.bool m.lo.neg, .slice A6 n6 c6, .int .i64 m.lo.e, .bool m.hi.neg, .slice B6 m6 d6, .int .i64 m.hi.e]), (29, w.heap.size + 1, zs), (49, w.heap.size, #[.int .u64 ((tm : Nat) : Int), .int .u64 ((n : Nat) : Int)])] ns → w'.cell? ⟨w7.heap.size, 0, none⟩ = some (.bool m.lo.neg) ∧ w'.cell? ⟨w7.heap.size, 1, none⟩ = some (.slice A6 n6 c6) ∧ w'.cell? ⟨w7.heap.size, 2, none⟩ = some (.int .i64 m.lo.e) ∧ w'.cell? ⟨w7.heap.size, 3, none⟩ = some (.bool m.hi.neg) ∧ w'.cell? ⟨w7.heap.size, 4, none⟩ = some (.slice B6 m6 d6) ∧ w'.cell? ⟨w7.heap.size, 5, none⟩ = some (.int .i64 m.hi.e) ∧ w'.cell? ⟨g14, 0, none⟩ = some (.bool r3.lo.neg) ∧ w'.cell? ⟨g14, 1, none⟩ = some (.slice A7 n7 c7) ∧ w'.cell? ⟨g14, 2, none⟩ = some (.int .i64 r3.lo.e) ∧ w'.cell? ⟨g14, 3, none⟩ = some (.bool r3.hi.neg) ∧ w'.cell? ⟨g14, 4, none⟩ = some (.slice B7 m7 d7) ∧ w'.cell? ⟨g14, 5, none⟩ = some (.int .i64 r3.hi.e)) := Lib.hid (fun b w' ns h => ⟨h.ks.2.1.1.at_ 0 _ rfl, h.ks.2.1.1.at_ 1 _ rfl, h.ks.2.1.1.at_ 2 _ rfl, h.ks.2.1.1.at_ 3 _ rfl, h.ks.2.1.1.at_ 4 _ rfl, h.ks.2.1.1.at_ 5 _ rfl, h.ks.1.1.at_ 0 _ rfl, h.ks.1.1.at_ 1 _ rfl, h.ks.1.1.at_ 2 _ rfl, h.ks.1.1.at_ 3 _ rfl, h.ks.1.1.at_ 4 _ rfl, h.ks.1.1.at_ 5 _ rfl⟩)
        have HP4 : Hid (∀ b w' ns, St TW w g p b w' [(29, g14, #[.bool r3.lo.neg, .slice A7 n7 c7, .int .i64 r3.lo.e, .bool r3.hi.neg, .slice B7 m7 d7, .int .i64 r3.hi.e]), (29, w7.heap.size, #[.bool m.lo.neg, .slice A6 n6 c6, .int .i64 m.lo.e, .bool m.hi.neg, .slice B6 m6 d6, .int .i64 m.hi.e]), (29, w.heap.size + 1, zs), (49, w.heap.size, #[.int .u64 ((tm : Nat) : Int), .int .u64 ((n : Nat) : Int)])] ns → ∀ x y z x' y' z', (put6 w' (w.heap.size + 1) x y z x' y' z').cell? ⟨w7.heap.size, 0, none⟩ = some (.bool m.lo.neg) ∧ (put6 w' (w.heap.size + 1) x y z x' y' z').cell? ⟨w7.heap.size, 1, none⟩ = some (.slice A6 n6 c6) ∧ (put6 w' (w.heap.size + 1) x y z x' y' z').cell? ⟨w7.heap.size, 2, none⟩ = some (.int .i64 m.lo.e) ∧ (put6 w' (w.heap.size + 1) x y z x' y' z').cell? ⟨w7.heap.size, 3, none⟩ = some (.bool m.hi.neg) ∧ (put6 w' (w.heap.size + 1) x y z x' y' z').cell? ⟨w7.heap.size, 4, none⟩ = some (.slice B6 m6 d6) ∧ (put6 w' (w.heap.size + 1) x y z x' y' z').cell? ⟨w7.heap.size, 5, none⟩ = some (.int .i64 m.hi.e) ∧ (put6 w' (w.heap.size + 1) x y z x' y' z').cell? ⟨g14, 0, none⟩ = some (.bool r3.lo.neg) ∧ (put6 w' (w.heap.size + 1) x y z x' y' z').cell? ⟨g14, 1, none⟩ = some (.slice A7 n7 c7) ∧ (put6 w' (w.heap.size + 1) x y z x' y' z').cell? ⟨g14, 2, none⟩ = some (.int .i64 r3.lo.e) ∧ (put6 w' (w.heap.size + 1) x y z x' y' z').cell? ⟨g14, 3, none⟩ = some (.bool r3.hi.neg) ∧ (put6 w' (w.heap.size + 1) x y z x' y' z').cell? ⟨g14, 4, none⟩ = some (.slice B7 m7 d7) ∧ (put6 w' (w.heap.size + 1) x y z x' y' z').cell? ⟨g14, 5, none⟩ = some (.int .i64 r3.hi.e)) := Lib.hid (fun b w' ns h x y z x' y' z' => ⟨(h.ks.2.1.1.only (only_put6 w' (w.heap.size + 1) x y z x' y' z') (by omega)).at_ 0 _ rfl, (h.ks.2.1.1.only (only_put6 w' (w.heap.size + 1) x y z x' y' z') (by omega)).at_ 1 _ rfl, (h.ks.2.1.1.only (only_put6 w' (w.heap.size + 1) x y z x' y' z') (by omega)).at_ 2 _ rfl, (h.ks.2.1.1.only (only_put6 w' (w.heap.size + 1) x y z x' y' z') (by omega)).at_ 3 _ rfl, (h.ks.2.1.1.only (only_put6 w' (w.heap.size + 1) x y z x' y' z') (by omega)).at_ 4 _ rfl, (h.ks.2.1.1.only (only_put6 w' (w.heap.size + 1) x y z x' y' z') (by omega)).at_ 5 _ rfl, (h.ks.1.1.only (only_put6 w' (w.heap.size + 1) x y z x' y' z') (by omega)).at_ 0 _ rfl, (h.ks.1.1.only (only_put6 w' (w.heap.size + 1) x y z x' y' z') (by omega)).at_ 1 _ rfl, (h.ks.1.1.only (only_put6 w' (w.heap.size + 1) x y z x' y' z') (by omega)).at_ 2 _ rfl, (h.ks.1.1.only (only_put6 w' (w.heap.size + 1) x y z x' y' z') (by omega)).at_ 3 _ rfl, (h.ks.1.1.only (only_put6 w' (w.heap.size + 1) x y z x' y' z') (by omega)).at_ 4 _ rfl, (h.ks.1.1.only (only_put6 w' (w.heap.size + 1) x y z x' y' z') (by omega)).at_ 5 _ rfl⟩)
        have hwl := V4.lt
        have hwn : IntKind.i64.wrap (-(bits : Int)) = -(bits : Int) := wrap_id (by omega) (by omega)
        go_upto_region 14 with fail
        have VD := V4.drew
        have q1 := VD.ns.1
        have q2 := VD.ns.2.1
        have XS := HC4.out _ _ _ VD
        go_region_held3 (fun w' => w'.cell? ⟨w7.heap.size, 0, none⟩ = some (.bool m.lo.neg) ∧ w'.cell? ⟨w7.heap.size, 1, none⟩ = some (.slice A6 n6 c6) ∧ w'.cell? ⟨w7.heap.size, 2, none⟩ = some (.int .i64 m.lo.e) ∧ w'.cell? ⟨w7.heap.size, 3, none⟩ = some (.bool m.hi.neg) ∧ w'.cell? ⟨w7.heap.size, 4, none⟩ = some (.slice B6 m6 d6) ∧ w'.cell? ⟨w7.heap.size, 5, none⟩ = some (.int .i64 m.hi.e) ∧ w'.cell? ⟨g14, 0, none⟩ = some (.bool r3.lo.neg) ∧ w'.cell? ⟨g14, 1, none⟩ = some (.slice A7 n7 c7) ∧ w'.cell? ⟨g14, 2, none⟩ = some (.int .i64 r3.lo.e) ∧ w'.cell? ⟨g14, 3, none⟩ = some (.bool r3.hi.neg) ∧ w'.cell? ⟨g14, 4, none⟩ = some (.slice B7 m7 d7) ∧ w'.cell? ⟨g14, 5, none⟩ = some (.int .i64 r3.hi.e))
          (first | with_reducible exact HP4.out _ _ _ V6 _ _ _ _ _ _ | with_reducible exact HC4.out _ _ _ V6 | with_reducible exact HC4.out _ _ _ V5 | with_reducible exact XS)
          (first
            | (go_at_call 52; refine (C4.out wc.drew _ _ _ _ _ _ _ _ _ (by first | with_reducible rfl | exact hwn) VD q1 q2).mono ?_; rintro e' v5 ⟨A8, n8, c8, B8, m8, d8, rfl, N1, N2, W5, o5⟩; have V5 := ((VD.only o5 W5).num N2).num N1; have u1 := V5.ns.2.2.2.2.1; have u2 := V5.ns.2.2.2.2.2.1; have u3 := V5.ns.1; have u4 := V5.ns.2.1)
            | (go_at_call 43; refine (C5.out v5 _ _ _ _ _ _ _ _ _ _ _ _ _ _ V5 u1 u2 u3 u4).mono ?_; rintro e' v6 ⟨A9, n9, c9, B9, m9, d9, rfl, N1, N2, W6, o6⟩; have V6 := ((V5.only o6 W6).num N2).num N1; have z1 := V6.ks.2.2.1.1; have z1c0 := z1.at_ 0 _ rfl; have z1c1 := z1.at_ 1 _ rfl; have z1c2 := z1.at_ 2 _ rfl; have z1c3 := z1.at_ 3 _ rfl; have z1c4 := z1.at_ 4 _ rfl; have z1c5 := z1.at_ 5 _ rfl; have z1f0 := z1.fr 0; have z1f1 := z1.fr 1; have z1f2 := z1.fr 2; have z1f3 := z1.fr 3; have z1f4 := z1.fr 4; have z1f5 := z1.fr 5; have z1l := z1.2; have z1n := Nat.ne_of_lt z1.2; have z1n2 := Nat.ne_of_gt z1.2))
        go_wp2_with fail
        rw [HE5.out]
        have y1 := V6.ns.1
        have y2 := V6.ns.2.1
        obtain ⟨x1, x2, x3, x4⟩ := V6.give (lo := r5.lo) (hi := r5.hi) y1 y2 z1 (by omega)
        exact bodyPost_ret (v := spv r5.lo.neg A9 n9 c9 r5.lo.e r5.hi.neg B9 m9 d9 r5.hi.e) (by simp [results, Tryz.results22, go_sem, z1c0, z1c1, z1c2, z1c3, z1c4, z1c5]) rfl ⟨A9, n9, c9, B9, m9, d9, rfl, x1, x2, x3, x4⟩
end Go.Proofs.YtodjldhppbbhdaaGreatDoor

namespace Go.Proofs.YtodjldhppbbhdaaGreatDoor
open Go.RowKit
variable {TW : TypeId}

def piT : Nat → Nat := fun j => if j = 0 then 176 else if j = 1 then 28 else 96
def piN : Nat → Nat := fun j => if j = 0 then 57 else if j = 1 then 239 else 12943
/-- What the code answers, of so many bits. -/
def piS (p : Nat) : Nat := encN true piT piN 3 48 682 (p + 64)
def piR (p : Nat) : SRes := encR (p : Int) (piS p)
/-- What is taken away is less than what it is taken from. -/
def piOk (p : Nat) : Bool := decide (unitsN true 48 682 (p + 64) < accN true piT piN (p + 64) 3)
set_option maxRecDepth 8000 in
set_option maxHeartbeats 4000000 in
theorem pi_any (g : Nat) (p : Nat) (w : World) (hp1 : 16 ≤ p) (hp2 : p ≤ 600) (hok : piOk p = true) (hW : Wk TW w g (p : Int) false) (hT : Tab w) :
    Calls Tryz.prog 8 #[.pointer (some ⟨g, 0, none⟩)] w (SPost TW w g (p : Int) (piR p)) := by
  have S : St TW w g (p : Int) false ((w.alloc (.cells zs 29)).alloc (.cells #[.int .u64 176, .int .u64 57, .int .u64 28, .int .u64 239, .int .u64 96, .int .u64 12943] 49)) [(49, w.heap.size + 1, #[.int .u64 176, .int .u64 57, .int .u64 28, .int .u64 239, .int .u64 96, .int .u64 12943]), (29, w.heap.size, zs)] [] := by
    have h := ((St.start hW).alloc 29 zs).alloc 49 #[.int .u64 176, .int .u64 57, .int .u64 28, .int .u64 239, .int .u64 96, .int .u64 12943]
    rw [show (w.alloc (.cells zs 29)).heap.size = w.heap.size + 1 by simp] at h
    exact h
  have hgl := hW.2
  have EN : Hid (Calls Tryz.prog 22 #[.pointer (some ⟨g, 0, none⟩), .bool true, .slice (some ⟨w.heap.size + 1, 0, none⟩) 3 3, shv 48 682] ((w.alloc (.cells zs 29)).alloc (.cells #[.int .u64 176, .int .u64 57, .int .u64 28, .int .u64 239, .int .u64 96, .int .u64 12943] 49)) (SPost TW ((w.alloc (.cells zs 29)).alloc (.cells #[.int .u64 176, .int .u64 57, .int .u64 28, .int .u64 239, .int .u64 96, .int .u64 12943] 49)) g (p : Int) (piR p))) := Lib.hid (by
    have hk := S.ks.1.1
    have hL : Shs ((w.alloc (.cells zs 29)).alloc (.cells #[.int .u64 176, .int .u64 57, .int .u64 28, .int .u64 239, .int .u64 96, .int .u64 12943] 49)) ⟨w.heap.size + 1, 0, none⟩ 3 piT piN := by
      refine ⟨hk.2, fun j hj => ?_⟩
      have hj' : j = 0 ∨ j = 1 ∨ j = 2 := by omega
      rcases hj' with rfl | rfl | rfl
      · exact ⟨hk.at_ 0 _ rfl, hk.at_ 1 _ rfl⟩
      · exact ⟨hk.at_ 2 _ rfl, hk.at_ 3 _ rfl⟩
      · exact ⟨hk.at_ 4 _ rfl, hk.at_ 5 _ rfl⟩
    have h := encl_any true ⟨w.heap.size + 1, 0, none⟩ 3 piT piN 48 682 g (p : Int) _ (by omega) (by omega) S.W (hT.wk hW S.O) hL (by show w.heap.size + 1 ≠ g; omega) (by omega)
      (fun j hj => by
        have hj' : j = 0 ∨ j = 1 ∨ j = 2 := by omega
        rcases hj' with rfl | rfl | rfl <;> decide) (by omega) (by omega) (by omega) (by omega) (by
        have := of_decide_eq_true hok
        simpa using this)
    simpa [piR, piS] using h)
  clear hok hT
  generalize piR p = r at *
  go_enter Tryz.func8, Tryz.ntmps8
  go_wp2_with fail
  refine EN.out.mono ?_
  clear EN
  generalize (w.alloc (.cells zs 29)).alloc (.cells #[.int .u64 176, .int .u64 57, .int .u64 28, .int .u64 239, .int .u64 96, .int .u64 12943] 49) = w1 at *
  rintro e' w2 ⟨A, n, c, B, m, d, rfl, N1, N2, W2, o2⟩
  have S2 := ((S.only o2 W2).num N2).num N1
  clear S N1 N2 W2 o2
  have z1 := S2.ks.2.1.1
  have z1c0 := z1.at_ 0 _ rfl; have z1c1 := z1.at_ 1 _ rfl; have z1c2 := z1.at_ 2 _ rfl; have z1c3 := z1.at_ 3 _ rfl; have z1c4 := z1.at_ 4 _ rfl; have z1c5 := z1.at_ 5 _ rfl; have z1f0 := z1.fr 0; have z1f1 := z1.fr 1; have z1f2 := z1.fr 2; have z1f3 := z1.fr 3; have z1f4 := z1.fr 4; have z1f5 := z1.fr 5
  go_wp2_with fail
  have y1 := S2.ns.1
  have y2 := S2.ns.2.1
  obtain ⟨x1, x2, x3, x4⟩ := S2.give (lo := r.lo) (hi := r.hi) y1 y2 z1 (by omega)
  exact bodyPost_ret (v := spv r.lo.neg A n c r.lo.e r.hi.neg B m d r.hi.e) (by simp [results, Tryz.results8, go_sem, z1c0, z1c1, z1c2, z1c3, z1c4, z1c5]) rfl ⟨A, n, c, B, m, d, rfl, x1, x2, x3, x4⟩
def lnT : Nat → Nat := fun j => if j = 0 then 18 else 8
def lnN : Nat → Nat := fun j => if j = 0 then 26 else 8749
/-- What the code answers, of so many bits. -/
def lnS (p : Nat) : Nat := encN false lnT lnN 2 2 4801 (p + 64)
def lnR (p : Nat) : SRes := encR (p : Int) (lnS p)
/-- What is taken away is less than what it is taken from. -/
def lnOk (p : Nat) : Bool := decide (unitsN false 2 4801 (p + 64) < accN false lnT lnN (p + 64) 2)
set_option maxRecDepth 8000 in
set_option maxHeartbeats 4000000 in
theorem ln_any (g : Nat) (p : Nat) (w : World) (hp1 : 16 ≤ p) (hp2 : p ≤ 600) (hok : lnOk p = true) (hW : Wk TW w g (p : Int) false) (hT : Tab w) :
    Calls Tryz.prog 13 #[.pointer (some ⟨g, 0, none⟩)] w (SPost TW w g (p : Int) (lnR p)) := by
  have S : St TW w g (p : Int) false ((w.alloc (.cells zs 29)).alloc (.cells #[.int .u64 18, .int .u64 26, .int .u64 8, .int .u64 8749] 49)) [(49, w.heap.size + 1, #[.int .u64 18, .int .u64 26, .int .u64 8, .int .u64 8749]), (29, w.heap.size, zs)] [] := by
    have h := ((St.start hW).alloc 29 zs).alloc 49 #[.int .u64 18, .int .u64 26, .int .u64 8, .int .u64 8749]
    rw [show (w.alloc (.cells zs 29)).heap.size = w.heap.size + 1 by simp] at h
    exact h
  have hgl := hW.2
  have EN : Hid (Calls Tryz.prog 22 #[.pointer (some ⟨g, 0, none⟩), .bool false, .slice (some ⟨w.heap.size + 1, 0, none⟩) 2 2, shv 2 4801] ((w.alloc (.cells zs 29)).alloc (.cells #[.int .u64 18, .int .u64 26, .int .u64 8, .int .u64 8749] 49)) (SPost TW ((w.alloc (.cells zs 29)).alloc (.cells #[.int .u64 18, .int .u64 26, .int .u64 8, .int .u64 8749] 49)) g (p : Int) (lnR p))) := Lib.hid (by
    have hk := S.ks.1.1
    have hL : Shs ((w.alloc (.cells zs 29)).alloc (.cells #[.int .u64 18, .int .u64 26, .int .u64 8, .int .u64 8749] 49)) ⟨w.heap.size + 1, 0, none⟩ 2 lnT lnN := by
      refine ⟨hk.2, fun j hj => ?_⟩
      have hj' : j = 0 ∨ j = 1 := by omega
      rcases hj' with rfl | rfl
      · exact ⟨hk.at_ 0 _ rfl, hk.at_ 1 _ rfl⟩
      · exact ⟨hk.at_ 2 _ rfl, hk.at_ 3 _ rfl⟩
    have h := encl_any false ⟨w.heap.size + 1, 0, none⟩ 2 lnT lnN 2 4801 g (p : Int) _ (by omega) (by omega) S.W (hT.wk hW S.O) hL (by show w.heap.size + 1 ≠ g; omega) (by omega)
      (fun j hj => by
        have hj' : j = 0 ∨ j = 1 := by omega
        rcases hj' with rfl | rfl <;> decide) (by omega) (by omega) (by omega) (by omega) (by
        have := of_decide_eq_true hok
        simpa using this)
    simpa [lnR, lnS] using h)
  clear hok hT
  generalize lnR p = r at *
  go_enter Tryz.func13, Tryz.ntmps13
  go_wp2_with fail
  refine EN.out.mono ?_
  clear EN
  generalize (w.alloc (.cells zs 29)).alloc (.cells #[.int .u64 18, .int .u64 26, .int .u64 8, .int .u64 8749] 49) = w1 at *
  rintro e' w2 ⟨A, n, c, B, m, d, rfl, N1, N2, W2, o2⟩
  have S2 := ((S.only o2 W2).num N2).num N1
  clear S N1 N2 W2 o2
  have z1 := S2.ks.2.1.1
  have z1c0 := z1.at_ 0 _ rfl; have z1c1 := z1.at_ 1 _ rfl; have z1c2 := z1.at_ 2 _ rfl; have z1c3 := z1.at_ 3 _ rfl; have z1c4 := z1.at_ 4 _ rfl; have z1c5 := z1.at_ 5 _ rfl; have z1f0 := z1.fr 0; have z1f1 := z1.fr 1; have z1f2 := z1.fr 2; have z1f3 := z1.fr 3; have z1f4 := z1.fr 4; have z1f5 := z1.fr 5
  go_wp2_with fail
  have y1 := S2.ns.1
  have y2 := S2.ns.2.1
  obtain ⟨x1, x2, x3, x4⟩ := S2.give (lo := r.lo) (hi := r.hi) y1 y2 z1 (by omega)
  exact bodyPost_ret (v := spv r.lo.neg A n c r.lo.e r.hi.neg B m d r.hi.e) (by simp [results, Tryz.results13, go_sem, z1c0, z1c1, z1c2, z1c3, z1c4, z1c5]) rfl ⟨A, n, c, B, m, d, rfl, x1, x2, x3, x4⟩
end Go.Proofs.YtodjldhppbbhdaaGreatDoor
